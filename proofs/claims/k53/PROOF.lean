import PyProof.Rows.All
import Wide.All
import OpenK.AllK
import Wide.FinOn
import KE.KNestM
import Lean
import PyProof.EqAt
import PyProof.EqKinds
import PyProof.TupleCall
import PyProof.StationsW
import PyProof.ExcBaseAll.ValueError
import PyProof.InstStoreFacts
import PyProof.RulesAs
import PyProof.RulesDel
import KE.KLam
import PyProof.ExcArgsOwn
import PyProof.AutoListH
import PyProof.StrWalks
import PyProof.StrBlockH
import PyProof.WalkInts
import PyProof.SeqI3
import PyProof.Rows.SetFrom
import PyProof.ZipIter
import KE.KTabLook
import PyProof.StrLaws
import KE.KIntText
import KE.KStrOpen
import PyProof.StrLawsTight
import PyProof.Rows.StrFit
import PyProof.Draws
import PyProof.EnumMake
import PyProof.StrCalls2
import PyProof.Rows.StrSplitJoin
import PyProof.CollectIter
import PyProof.StrBlock2
import PyProof.Rows.SortWalk
import PyProof.Rows.CallKwBuiltin
import KE.KMinBuiltin
import KE.KRevSl
import PyProof.DictItemsLoops
import PyProof.CollectWalk
import PyProof.ListRange
import KE.KSortAsk
import PyProof.SetRoads
import KE.KRevIter
import PyProof.FactsAll.range_2
import PyProof.IsRules
import PySem.Challenge.RW_lanescribe_k53_whole_ways_and_tests_alik
set_option Elab.async false
set_option linter.all false
set_option maxRecDepth 1000000
set_option maxHeartbeats 0
namespace Kd
open PySem PySem.W
noncomputable section
theorem wU {p q:Program} {loose:List Str} {Xt:Shared->Bool} {α:Type} {Yf:Shared->α} {Ya:World->α} {N:Nat} (e:opening p=plainProg p.main.scope.names) (hN:Nat.ble 600 N=true) (f:∀ s,fenceModules? p s=some s)
 (h:∀ (w:World) (os:OsState),(topFrom treeTable p w N ⟨boot_heap w.params,Array.mk [],boot_drawn,boot_toks,os⟩).map (fun s=>(openSeen q loose (importedModules p.main.body) Xt true s,Yf s))=some (openGood q loose,Ya w)):LeftO p q loose Xt Yf Ya N:=fun w=>by
 obtain ⟨⟨h',gs,d,k,os⟩,e1,e2⟩:=Option.map_eq_some_iff.mp (boot_open e hN f w)
 obtain ⟨rfl,rfl,rfl,rfl⟩:h'=boot_heap w.params/\gs=Array.mk []/\d=boot_drawn/\k=boot_toks:=by simpa using e2
 unfold openEnds
 rw [e1]
 exact h w os
noncomputable abbrev u (x:String):Str:=Str.ofString x
noncomputable abbrev vs (x:String) (t:Nat):Value:=.str (Str.ofString x) t
noncomputable abbrev vi (x:Int) (t:Nat):Value:=.int x t
noncomputable abbrev vr (x:Nat):Value:=.ref x
noncomputable abbrev vt (x:String):Value:=.type x
noncomputable abbrev vn:Value:=.none
noncomputable abbrev vb:Value:=.bool true
noncomputable abbrev vf (t:Nat):Value:=.str (Str.ofString "/claim/cut.py") t
noncomputable abbrev ot (x:Array Value):Obj:={ cls:=.type "tuple",data:=Data.seq x }
noncomputable abbrev oc (x:Array Value):Obj:={ cls:=.type "code",data:=Data.fields x }
noncomputable abbrev of (n q:String) (a:Arguments) (b:List Stmt) (s:Scope) (d m c:Value):Obj:={ cls:=.type "function",data:=Data.func { name:=Str.ofString n,qualname:=Str.ofString q,params:=a,body:=FuncBody.stmts b,scope:=s,globals:=3,closure:=[],defaults:=d,kwdefaults:=.none,pyModule:=m,code:=c } }
noncomputable abbrev de (P:Params) (x:String) (t:Nat) (v:Value):DictEntry:={ hash:=PyData.keyHash P (Str.ofString x),key:=.str (Str.ofString x) t,val:=v }
noncomputable def tp (i:Nat):Stmt:=PySem.Challenge.pw_lanescribe_k53_whole_ways_and_tests_alik.main.body.getD i (.Pass ⟨0,0,0,0⟩)
def meth (i j:Nat):Stmt:=match tp i with
 |.ClassDef _ _ _ body _ _ _ _ _ _ _=>body.getD j (.Pass ⟨0,0,0,0⟩)
 |_=>.Pass ⟨0,0,0,0⟩
def dA (s:Stmt):Arguments:=match s with
 |.FunctionDef _ a _ _ _ _ _ _ _ _=>a
 |_=>{ posonlyargs:=[],args:=[],vararg:=none,kwonlyargs:=[],kw_defaults:=[],kwarg:=none,defaults:=[] }
def dB (s:Stmt):List Stmt:=match s with
 |.FunctionDef _ _ b _ _ _ _ _ _ _=>b
 |_=>[]
def dS (s:Stmt):Scope:=match s with
 |.FunctionDef _ _ _ _ _ _ sc _ _ _=>sc
 |_=>{ kind:=.function,names:=[],isGenerator:=false,isCoroutine:=false }
abbrev TA (i:Nat):Arguments:=dA (tp i)
abbrev TB (i:Nat):List Stmt:=dB (tp i)
abbrev TS (i:Nat):Scope:=dS (tp i)
abbrev MA (i j:Nat):Arguments:=dA (meth i j)
abbrev MB (i j:Nat):List Stmt:=dB (meth i j)
abbrev MS (i j:Nat):Scope:=dS (meth i j)
noncomputable abbrev og (n q:String) (a:Arguments) (b:List Stmt) (s:Scope):Obj:={ cls:=.none,data:=Data.func { name:=Str.ofString n,qualname:=Str.ofString q,params:=a,body:=FuncBody.stmts b,scope:=s,globals:=0,closure:=[],defaults:=.none,kwdefaults:=.none } }
abbrev gt (n:String) (i:Nat):Obj:=og n n (TA i) (TB i) (TS i)
abbrev gm (n q:String) (i j:Nat):Obj:=og n q (MA i j) (MB i j) (MS i j)
abbrev ft (n:String) (i:Nat):Value->Value->Value->Obj:=of n n (TA i) (TB i) (TS i)
abbrev fm (n q:String) (i j:Nat):Value->Value->Value->Obj:=of n q (MA i j) (MB i j) (MS i j)
noncomputable abbrev oq (n:String) (a:Nat) (q:String) (b c:Nat) (l k:Int) (r s:Nat) (x y z:Value) (t:Int) (d:Nat):Obj:=oc #[vs n a,vs q b,vf c,vi l 0,vi k 0,vi 0 0,vi 0 0,vi 3 0,vr r,vb,vi 181 0,vr s,vn,x,y,z,vi t 0,vi l 0,vf d]
abbrev ok (n:String) (a b c:Nat) (l k:Int) (r s:Nat) (x y z:Value) (t:Int) (d:Nat):Obj:=oq n a n b c l k r s x y z t d
abbrev z1:Value:=vs "lanescribe.errors" 194
abbrev z2:Value:=vs "lanescribe.sieve" 540
abbrev z3:Value:=vs "lanescribe.kinds" 401
abbrev z4:Value:=vs "lanescribe.ways" 755
abbrev z5:Value:=vs "law_lanescribe_k53_whole_ways_and_tests_alik" 889
abbrev z6:Value:=vs "ScribeError" 204
def o0:Obj:=ot #[]
def o1:Obj:={ cls:=vn,data:=Data.fields #[] }
def o2:Obj:=oc #[vs "<module>" 182,vs "<module>" 183,vf 184,vi 1 0,vi 0 0,vi 0 0,vi 0 0,vi 0 0,vr 11,Value.bool false,vi 181 0,vr 12,vn,vn,vn,vn,vi 185 0,vi 1 0,vf 186]
def o3:Obj:={ cls:=vt "frame",slots:=#[some (vr 13),some (vr 3),some (vr 3),none,some (vs "__main__" 164),none,some (vr 0)] }
def o4 (P:Params):Obj:={ cls:=vt "dict",data:=Data.dict #[de P "__name__" 165 z1,de P "__doc__" 166 (vn),de P "__package__" 167 (vn),de P "__loader__" 168 (Value.builtin "__main__.__loader__#opaque"),de P "__spec__" 169 (vn),de P "__annotations__" 170 (vr 6),de P "__builtins__" 171 (vr 4),de P "__file__" 173 (vf 172),de P "__cached__" 174 (vn),de P "_wall" 193 (vr 21),de P "ScribeError" 225 (vr 39),de P "BadName" 250 (vr 60),de P "BadBounds" 275 (vr 80),de P "BadTest" 300 (vr 100),de P "BadWay" 325 (vr 120)] 15 }
def o5:Obj:={ cls:=vn,data:=Data.fields #[vi 1 0,vi 0 0,vr 20,vi 5 0,vi 0 0,vr 27,vi 10 0,vi 0 0,vr 48,vi 14 0,vi 0 0,vr 68,vi 18 0,vi 0 0,vr 88,vi 22 0,vi 0 0,vr 108] }
def o6:Obj:=ot #[vs "k" 190]
def o7:Obj:=gt "_wall" 0
def o8:Obj:=ok "_wall" 187 188 189 1 1 15 16 (vr 17) (vr 18) (vr 19) 191 192
def o9:Obj:=ft "_wall" 0 vn (vs "__main__" 164) (vr 20)
def T3:Obj:=ot #[vt "ValueError"]
def jJ:Obj:={ cls:=vt "builtin_function_or_method",data:=Data.fields #[Value.builtin "type.__prepare__",vt "type"] }
def T6 (P:Params):Obj:={ cls:=vt "dict",data:=Data.dict #[de P "__module__" 203 z1,de P "__qualname__" 205 z6,de P "__firstlineno__" 207 (vi 5 206),de P "__init__" 218 (vr 36),de P "__static_attributes__" 220 (vr 37)] 5 }
def TX:Obj:={ cls:=vn,data:=Data.fields #[vi 7 0,vi 4 0,vr 35] }
def TQ:Obj:=oc #[vs "ScribeError" 198,vs "ScribeError" 199,vf 200,vi 5 0,vi 0 0,vi 0 0,vi 0 0,vi 0 0,vr 25,Value.bool false,vi 181 0,vr 26,vn,vn,vn,vn,vi 201 0,vi 5 0,vf 202]
def Up:Obj:={ cls:=vt "frame",slots:=#[some (vr 27),some (vr 3),some (vr 24),none,some z1,none,some (vr 0)] }
def Qy:Obj:=ot #[vs "" 208,vs "scribeerror" 209]
def Rm:Obj:=ot #[vs "self" 213,vs "words" 214,vs "word" 215]
def Uh:Obj:=gm "__init__" "ScribeError.__init__" 2 0
def N_:Obj:=oq "__init__" 210 "ScribeError.__init__" 211 212 7 3 30 31 (vr 32) (vr 33) (vr 34) 216 217
def R0:Obj:=fm "__init__" "ScribeError.__init__" 2 0 (vr 29) z1 (vr 35)
def PX:Obj:=ot #[vs "word" 219]
def RC (P:Params):Obj:={ cls:=vt "dict",data:=Data.dict #[de P "__module__" 203 z1,de P "__firstlineno__" 207 (vi 5 206),de P "__init__" 218 (vr 36),de P "__static_attributes__" 220 (vr 37),de P "__weakref__" 222 (vr 40),de P "__doc__" 223 (vn)] 3 }
def XQ:Obj:={ cls:=vt "type",data:=Data.cls { name:=u "ScribeError",bases:=[vt "ValueError"],mro:=[vr 39,vt "ValueError",vt "Exception",vt "BaseException",vt "object"],ns:=38,qualname:=u "ScribeError",subclasses:=[vr 60,vr 80,vr 100,vr 120] },slots:=#[some (vr 22),none,some (vs "ScribeError" 196),some z6,some (Value.builtin "ValueError.__new__"),some (vb)] }
def R1:Obj:={ cls:=vt "getset_descriptor",data:=Data.fields #[vs "__weakref__" 221,vr 39,Value.builtin "ExceptionGroup.__weakref__",vn] }
def T8:Obj:={ cls:=vt "super",data:=Data.fields #[vr 39,vr 39,vr 39] }
def Uj:Obj:={ cls:=vt "builtin_function_or_method",data:=Data.fields #[Value.builtin "object.__init_subclass__",vr 39] }
def jF:Obj:=ot #[vr 39]
def Um (P:Params):Obj:={ cls:=vt "dict",data:=Data.dict #[de P "__module__" 233 z1,de P "__qualname__" 235 (vs "BadName" 234),de P "__firstlineno__" 237 (vi 10 236),de P "__init__" 246 (vr 57),de P "__static_attributes__" 247 (vr 58)] 5 }
def Ue:Obj:={ cls:=vn,data:=Data.fields #[vi 12 0,vi 4 0,vr 56] }
def Uc:Obj:=oc #[vs "BadName" 228,vs "BadName" 229,vf 230,vi 10 0,vi 0 0,vi 0 0,vi 0 0,vi 0 0,vr 46,Value.bool false,vi 181 0,vr 47,vn,vn,vn,vn,vi 231 0,vi 10 0,vf 232]
def TJ:Obj:={ cls:=vt "frame",slots:=#[some (vr 48),some (vr 3),some (vr 45),none,some z1,none,some (vr 0)] }
def MT:Obj:=ot #[vs "" 238]
def Rk:Obj:=ot #[vs "self" 242,vs "words" 243]
def Uo:Obj:=gm "__init__" "BadName.__init__" 3 0
def OD:Obj:=oq "__init__" 239 "BadName.__init__" 240 241 12 2 51 52 (vr 53) (vr 54) (vr 55) 244 245
def MK:Obj:=fm "__init__" "BadName.__init__" 3 0 (vr 50) z1 (vr 56)
def Nb (P:Params):Obj:={ cls:=vt "dict",data:=Data.dict #[de P "__module__" 233 z1,de P "__firstlineno__" 237 (vi 10 236),de P "__init__" 246 (vr 57),de P "__static_attributes__" 247 (vr 58),de P "__doc__" 248 (vn)] 2 }
def QJ:Obj:={ cls:=vt "type",data:=Data.cls { name:=u "BadName",bases:=[vr 39],mro:=[vr 60,vr 39,vt "ValueError",vt "Exception",vt "BaseException",vt "object"],ns:=59,qualname:=u "BadName" },slots:=#[some (vr 43),none,some (vs "BadName" 226),some (vs "BadName" 234),some (Value.builtin "ValueError.__new__"),some (vb)] }
def Te:Obj:={ cls:=vt "super",data:=Data.fields #[vr 60,vr 60,vr 60] }
def Tc:Obj:={ cls:=vt "builtin_function_or_method",data:=Data.fields #[Value.builtin "object.__init_subclass__",vr 60] }
def Ur (P:Params):Obj:={ cls:=vt "dict",data:=Data.dict #[de P "__module__" 258 z1,de P "__qualname__" 260 (vs "BadBounds" 259),de P "__firstlineno__" 262 (vi 14 261),de P "__init__" 271 (vr 77),de P "__static_attributes__" 272 (vr 78)] 5 }
def Uu:Obj:={ cls:=vn,data:=Data.fields #[vi 16 0,vi 4 0,vr 76] }
def Tv:Obj:=oc #[vs "BadBounds" 253,vs "BadBounds" 254,vf 255,vi 14 0,vi 0 0,vi 0 0,vi 0 0,vi 0 0,vr 66,Value.bool false,vi 181 0,vr 67,vn,vn,vn,vn,vi 256 0,vi 14 0,vf 257]
def Ui:Obj:={ cls:=vt "frame",slots:=#[some (vr 68),some (vr 3),some (vr 65),none,some z1,none,some (vr 0)] }
def Rp:Obj:=ot #[vs "" 263]
def R7:Obj:=ot #[vs "self" 267,vs "words" 268]
def T9:Obj:=gm "__init__" "BadBounds.__init__" 4 0
def Sq:Obj:=oq "__init__" 264 "BadBounds.__init__" 265 266 16 2 71 72 (vr 73) (vr 74) (vr 75) 269 270
def Qa:Obj:=fm "__init__" "BadBounds.__init__" 4 0 (vr 70) z1 (vr 76)
def RJ (P:Params):Obj:={ cls:=vt "dict",data:=Data.dict #[de P "__module__" 258 z1,de P "__firstlineno__" 262 (vi 14 261),de P "__init__" 271 (vr 77),de P "__static_attributes__" 272 (vr 78),de P "__doc__" 273 (vn)] 2 }
def Oz:Obj:={ cls:=vt "type",data:=Data.cls { name:=u "BadBounds",bases:=[vr 39],mro:=[vr 80,vr 39,vt "ValueError",vt "Exception",vt "BaseException",vt "object"],ns:=79,qualname:=u "BadBounds" },slots:=#[some (vr 63),none,some (vs "BadBounds" 251),some (vs "BadBounds" 259),some (Value.builtin "ValueError.__new__"),some (vb)] }
def TV:Obj:={ cls:=vt "super",data:=Data.fields #[vr 80,vr 80,vr 80] }
def Td:Obj:={ cls:=vt "builtin_function_or_method",data:=Data.fields #[Value.builtin "object.__init_subclass__",vr 80] }
def Us (P:Params):Obj:={ cls:=vt "dict",data:=Data.dict #[de P "__module__" 283 z1,de P "__qualname__" 285 (vs "BadTest" 284),de P "__firstlineno__" 287 (vi 18 286),de P "__init__" 296 (vr 97),de P "__static_attributes__" 297 (vr 98)] 5 }
def Ub:Obj:={ cls:=vn,data:=Data.fields #[vi 20 0,vi 4 0,vr 96] }
def Ua:Obj:=oc #[vs "BadTest" 278,vs "BadTest" 279,vf 280,vi 18 0,vi 0 0,vi 0 0,vi 0 0,vi 0 0,vr 86,Value.bool false,vi 181 0,vr 87,vn,vn,vn,vn,vi 281 0,vi 18 0,vf 282]
def Tn:Obj:={ cls:=vt "frame",slots:=#[some (vr 88),some (vr 3),some (vr 85),none,some z1,none,some (vr 0)] }
def Q6:Obj:=ot #[vs "" 288]
def M_:Obj:=ot #[vs "self" 292,vs "words" 293]
def Tz:Obj:=gm "__init__" "BadTest.__init__" 5 0
def Mj:Obj:=oq "__init__" 289 "BadTest.__init__" 290 291 20 2 91 92 (vr 93) (vr 94) (vr 95) 294 295
def Rn:Obj:=fm "__init__" "BadTest.__init__" 5 0 (vr 90) z1 (vr 96)
def Nr (P:Params):Obj:={ cls:=vt "dict",data:=Data.dict #[de P "__module__" 283 z1,de P "__firstlineno__" 287 (vi 18 286),de P "__init__" 296 (vr 97),de P "__static_attributes__" 297 (vr 98),de P "__doc__" 298 (vn)] 2 }
def O7:Obj:={ cls:=vt "type",data:=Data.cls { name:=u "BadTest",bases:=[vr 39],mro:=[vr 100,vr 39,vt "ValueError",vt "Exception",vt "BaseException",vt "object"],ns:=99,qualname:=u "BadTest" },slots:=#[some (vr 83),none,some (vs "BadTest" 276),some (vs "BadTest" 284),some (Value.builtin "ValueError.__new__"),some (vb)] }
def U6:Obj:={ cls:=vt "super",data:=Data.fields #[vr 100,vr 100,vr 100] }
def Tt:Obj:={ cls:=vt "builtin_function_or_method",data:=Data.fields #[Value.builtin "object.__init_subclass__",vr 100] }
def U8 (P:Params):Obj:={ cls:=vt "dict",data:=Data.dict #[de P "__module__" 308 z1,de P "__qualname__" 310 (vs "BadWay" 309),de P "__firstlineno__" 312 (vi 22 311),de P "__init__" 321 (vr 117),de P "__static_attributes__" 322 (vr 118)] 5 }
def Ul:Obj:={ cls:=vn,data:=Data.fields #[vi 24 0,vi 4 0,vr 116] }
def Tg:Obj:=oc #[vs "BadWay" 303,vs "BadWay" 304,vf 305,vi 22 0,vi 0 0,vi 0 0,vi 0 0,vi 0 0,vr 106,Value.bool false,vi 181 0,vr 107,vn,vn,vn,vn,vi 306 0,vi 22 0,vf 307]
def Tu:Obj:={ cls:=vt "frame",slots:=#[some (vr 108),some (vr 3),some (vr 105),none,some z1,none,some (vr 0)] }
def NB:Obj:=ot #[vs "" 313]
def NP:Obj:=ot #[vs "self" 317,vs "words" 318]
def T5:Obj:=gm "__init__" "BadWay.__init__" 6 0
def Qe:Obj:=oq "__init__" 314 "BadWay.__init__" 315 316 24 2 111 112 (vr 113) (vr 114) (vr 115) 319 320
def Q3:Obj:=fm "__init__" "BadWay.__init__" 6 0 (vr 110) z1 (vr 116)
def Rj (P:Params):Obj:={ cls:=vt "dict",data:=Data.dict #[de P "__module__" 308 z1,de P "__firstlineno__" 312 (vi 22 311),de P "__init__" 321 (vr 117),de P "__static_attributes__" 322 (vr 118),de P "__doc__" 323 (vn)] 2 }
def Rg:Obj:={ cls:=vt "type",data:=Data.cls { name:=u "BadWay",bases:=[vr 39],mro:=[vr 120,vr 39,vt "ValueError",vt "Exception",vt "BaseException",vt "object"],ns:=119,qualname:=u "BadWay" },slots:=#[some (vr 103),none,some (vs "BadWay" 301),some (vs "BadWay" 309),some (Value.builtin "ValueError.__new__"),some (vb)] }
def T7:Obj:={ cls:=vt "super",data:=Data.fields #[vr 120,vr 120,vr 120] }
def U4:Obj:={ cls:=vt "builtin_function_or_method",data:=Data.fields #[Value.builtin "object.__init_subclass__",vr 120] }
def Xn (P:Params):Obj:={ cls:=vt "dict",data:=Data.dict #[de P "__name__" 165 z3,de P "__doc__" 166 (vn),de P "__package__" 167 (vn),de P "__loader__" 168 (Value.builtin "__main__.__loader__#opaque"),de P "__spec__" 169 (vn),de P "__annotations__" 170 (vr 6),de P "__builtins__" 171 (vr 4),de P "__file__" 173 (vf 172),de P "__cached__" 174 (vn),de P "_wall" 193 (vr 21),de P "ScribeError" 225 (vr 39),de P "BadName" 250 (vr 60),de P "BadBounds" 275 (vr 80),de P "BadTest" 300 (vr 100),de P "BadWay" 325 (vr 120),de P "Taken" 350 (vr 140),de P "Full" 375 (vr 160),de P "BadValue" 400 (vr 179),de P "LIMIT" 404 (vi 999999 403),de P "MOST_LETTERS" 406 (vi 8 405),de P "MOST_FIELDS" 408 (vi 4 407),de P "is_name" 415 (vr 188),de P "need_name" 422 (vr 195),de P "need_fields" 433 (vr 202),de P "bounds_text" 439 (vr 207),de P "Kind" 539 (vr 282)] 26 }
def Xz:Obj:={ cls:=vn,data:=Data.fields #[vi 1 0,vi 0 0,vr 20,vi 5 0,vi 0 0,vr 27,vi 10 0,vi 0 0,vr 48,vi 14 0,vi 0 0,vr 68,vi 18 0,vi 0 0,vr 88,vi 22 0,vi 0 0,vr 108,vi 26 0,vi 0 0,vr 128,vi 30 0,vi 0 0,vr 148,vi 34 0,vi 0 0,vr 168,vi 43 0,vi 0 0,vr 187,vi 45 0,vi 0 0,vr 194,vi 48 0,vi 0 0,vr 201,vi 57 0,vi 0 0,vr 206,vi 59 0,vi 0 0,vr 213] }
def Tq:Obj:={ cls:=vt "type",data:=Data.cls { name:=u "ScribeError",bases:=[vt "ValueError"],mro:=[vr 39,vt "ValueError",vt "Exception",vt "BaseException",vt "object"],ns:=38,qualname:=u "ScribeError",subclasses:=[vr 60,vr 80,vr 100,vr 120,vr 140,vr 160,vr 179] },slots:=#[some (vr 22),none,some (vs "ScribeError" 196),some z6,some (Value.builtin "ValueError.__new__"),some (vb)] }
def Wq (P:Params):Obj:={ cls:=vt "dict",data:=Data.dict #[de P "__module__" 333 z1,de P "__qualname__" 335 (vs "Taken" 334),de P "__firstlineno__" 337 (vi 26 336),de P "__init__" 346 (vr 137),de P "__static_attributes__" 347 (vr 138)] 5 }
def Wg:Obj:={ cls:=vn,data:=Data.fields #[vi 28 0,vi 4 0,vr 136] }
def VJ:Obj:=oc #[vs "Taken" 328,vs "Taken" 329,vf 330,vi 26 0,vi 0 0,vi 0 0,vi 0 0,vi 0 0,vr 126,Value.bool false,vi 181 0,vr 127,vn,vn,vn,vn,vi 331 0,vi 26 0,vf 332]
def Wx:Obj:={ cls:=vt "frame",slots:=#[some (vr 128),some (vr 3),some (vr 125),none,some z1,none,some (vr 0)] }
def U7:Obj:=ot #[vs "" 338]
def Ud:Obj:=ot #[vs "self" 342,vs "words" 343]
def Vw:Obj:=gm "__init__" "Taken.__init__" 7 0
def T_:Obj:=oq "__init__" 339 "Taken.__init__" 340 341 28 2 131 132 (vr 133) (vr 134) (vr 135) 344 345
def Tw:Obj:=fm "__init__" "Taken.__init__" 7 0 (vr 130) z1 (vr 136)
def TY (P:Params):Obj:={ cls:=vt "dict",data:=Data.dict #[de P "__module__" 333 z1,de P "__firstlineno__" 337 (vi 26 336),de P "__init__" 346 (vr 137),de P "__static_attributes__" 347 (vr 138),de P "__doc__" 348 (vn)] 2 }
def U5:Obj:={ cls:=vt "type",data:=Data.cls { name:=u "Taken",bases:=[vr 39],mro:=[vr 140,vr 39,vt "ValueError",vt "Exception",vt "BaseException",vt "object"],ns:=139,qualname:=u "Taken" },slots:=#[some (vr 123),none,some (vs "Taken" 326),some (vs "Taken" 334),some (Value.builtin "ValueError.__new__"),some (vb)] }
def UT:Obj:={ cls:=vt "super",data:=Data.fields #[vr 140,vr 140,vr 140] }
def V5:Obj:={ cls:=vt "builtin_function_or_method",data:=Data.fields #[Value.builtin "object.__init_subclass__",vr 140] }
def V8 (P:Params):Obj:={ cls:=vt "dict",data:=Data.dict #[de P "__module__" 358 z1,de P "__qualname__" 360 (vs "Full" 359),de P "__firstlineno__" 362 (vi 30 361),de P "__init__" 371 (vr 157),de P "__static_attributes__" 372 (vr 158)] 5 }
def UV:Obj:={ cls:=vn,data:=Data.fields #[vi 32 0,vi 4 0,vr 156] }
def VD:Obj:=oc #[vs "Full" 353,vs "Full" 354,vf 355,vi 30 0,vi 0 0,vi 0 0,vi 0 0,vi 0 0,vr 146,Value.bool false,vi 181 0,vr 147,vn,vn,vn,vn,vi 356 0,vi 30 0,vf 357]
def V1:Obj:={ cls:=vt "frame",slots:=#[some (vr 148),some (vr 3),some (vr 145),none,some z1,none,some (vr 0)] }
def o100:Obj:=ot #[vs "" 363]
def Dn:Obj:=ot #[vs "self" 367,vs "words" 368]
def JS:Obj:=gm "__init__" "Full.__init__" 8 0
def Fj:Obj:=oq "__init__" 364 "Full.__init__" 365 366 32 2 151 152 (vr 153) (vr 154) (vr 155) 369 370
def CG:Obj:=fm "__init__" "Full.__init__" 8 0 (vr 150) z1 (vr 156)
def Fd (P:Params):Obj:={ cls:=vt "dict",data:=Data.dict #[de P "__module__" 358 z1,de P "__firstlineno__" 362 (vi 30 361),de P "__init__" 371 (vr 157),de P "__static_attributes__" 372 (vr 158),de P "__doc__" 373 (vn)] 2 }
def Ey:Obj:={ cls:=vt "type",data:=Data.cls { name:=u "Full",bases:=[vr 39],mro:=[vr 160,vr 39,vt "ValueError",vt "Exception",vt "BaseException",vt "object"],ns:=159,qualname:=u "Full" },slots:=#[some (vr 143),none,some (vs "Full" 351),some (vs "Full" 359),some (Value.builtin "ValueError.__new__"),some (vb)] }
def Ly:Obj:={ cls:=vt "super",data:=Data.fields #[vr 160,vr 160,vr 160] }
def K7:Obj:={ cls:=vt "builtin_function_or_method",data:=Data.fields #[Value.builtin "object.__init_subclass__",vr 160] }
def Lr (P:Params):Obj:={ cls:=vt "dict",data:=Data.dict #[de P "__module__" 383 z1,de P "__qualname__" 385 (vs "BadValue" 384),de P "__firstlineno__" 387 (vi 34 386),de P "__init__" 395 (vr 176),de P "__static_attributes__" 397 (vr 177)] 5 }
def Hx:Obj:={ cls:=vn,data:=Data.fields #[vi 36 0,vi 4 0,vr 175] }
def o111:Obj:=oc #[vs "BadValue" 378,vs "BadValue" 379,vf 380,vi 34 0,vi 0 0,vi 0 0,vi 0 0,vi 0 0,vr 166,Value.bool false,vi 181 0,vr 167,vn,vn,vn,vn,vi 381 0,vi 34 0,vf 382]
def Hf:Obj:={ cls:=vt "frame",slots:=#[some (vr 168),some (vr 3),some (vr 165),none,some z1,none,some (vr 0)] }
def Dk:Obj:=ot #[vs "self" 391,vs "at" 392]
def JK:Obj:=gm "__init__" "BadValue.__init__" 9 0
def Bs:Obj:=oq "__init__" 388 "BadValue.__init__" 389 390 36 2 170 171 (vr 172) (vr 173) (vr 174) 393 394
def BP:Obj:=fm "__init__" "BadValue.__init__" 9 0 vn z1 (vr 175)
def Fg:Obj:=ot #[vs "at" 396]
def CJ (P:Params):Obj:={ cls:=vt "dict",data:=Data.dict #[de P "__module__" 383 z1,de P "__firstlineno__" 387 (vi 34 386),de P "__init__" 395 (vr 176),de P "__static_attributes__" 397 (vr 177),de P "__doc__" 398 (vn)] 2 }
def Er:Obj:={ cls:=vt "type",data:=Data.cls { name:=u "BadValue",bases:=[vr 39],mro:=[vr 179,vr 39,vt "ValueError",vt "Exception",vt "BaseException",vt "object"],ns:=178,qualname:=u "BadValue" },slots:=#[some (vr 163),none,some (vs "BadValue" 376),some (vs "BadValue" 384),some (Value.builtin "ValueError.__new__"),some (vb)] }
def Ke:Obj:={ cls:=vt "super",data:=Data.fields #[vr 179,vr 179,vr 179] }
def Hs:Obj:={ cls:=vt "builtin_function_or_method",data:=Data.fields #[Value.builtin "object.__init_subclass__",vr 179] }
def Fe:Obj:=ot #[vs "text" 412]
def L_:Obj:=gt "is_name" 14
def Ep:Obj:=ok "is_name" 409 410 411 43 1 182 183 (vr 184) (vr 185) (vr 186) 413 414
def Dj:Obj:=ft "is_name" 14 vn z3 (vr 187)
def CN:Obj:=ot #[vs "text" 419]
def IV:Obj:=gt "need_name" 15
def D_:Obj:=ok "need_name" 416 417 418 45 1 189 190 (vr 191) (vr 192) (vr 193) 420 421
def Fv:Obj:=ft "need_name" 15 vn z3 (vr 194)
def Fb:Obj:=ot #[vs "fields" 426,vs "seen" 427,vs "name" 428,vs "low" 429,vs "high" 430]
def J_:Obj:=gt "need_fields" 16
def Ek:Obj:=ok "need_fields" 423 424 425 48 1 196 197 (vr 198) (vr 199) (vr 200) 431 432
def Ed:Obj:=ft "need_fields" 16 vn z3 (vr 201)
def GX:Obj:=gt "bounds_text" 17
def Cq:Obj:=ok "bounds_text" 434 435 436 57 1 203 204 vn vn (vr 205) 437 438
def Cv:Obj:=ft "bounds_text" 17 vn z3 (vr 206)
def J1 (P:Params):Obj:={ cls:=vt "dict",data:=Data.dict #[de P "__module__" 447 z3,de P "__qualname__" 449 (vs "Kind" 448),de P "__firstlineno__" 451 (vi 59 450),de P "__init__" 460 (vr 223),de P "lowest" 467 (vr 230),de P "cells" 474 (vr 237),de P "place_of" 486 (vr 244),de P "need" 499 (vr 251),de P "__eq__" 507 (vr 258),de P "__len__" 514 (vr 265),de P "__str__" 521 (vr 272),de P "__repr__" 528 (vr 279),de P "__static_attributes__" 531 (vr 280)] 13 }
def Kw:Obj:={ cls:=vn,data:=Data.fields #[vi 61 0,vi 4 0,vr 222,vi 69 0,vi 4 0,vr 229,vi 72 0,vi 4 0,vr 236,vi 75 0,vi 4 0,vr 243,vi 81 0,vi 4 0,vr 250,vi 88 0,vi 4 0,vr 257,vi 91 0,vi 4 0,vr 264,vi 94 0,vi 4 0,vr 271,vi 97 0,vi 4 0,vr 278] }
def IK:Obj:=oc #[vs "Kind" 442,vs "Kind" 443,vf 444,vi 59 0,vi 0 0,vi 0 0,vi 0 0,vi 0 0,vr 211,Value.bool false,vi 181 0,vr 212,vn,vn,vn,vn,vi 445 0,vi 59 0,vf 446]
def Hv:Obj:={ cls:=vt "frame",slots:=#[some (vr 213),some (vr 3),some (vr 210),none,some z3,none,some (vr 0)] }
def Cy:Obj:=ot #[vr 215]
def E_:Obj:=ot #[vs "self" 455,vs "name" 456,vs "fields" 457]
def JH:Obj:=gm "__init__" "Kind.__init__" 18 0
def BJ:Obj:=oq "__init__" 452 "Kind.__init__" 453 454 61 3 217 218 (vr 219) (vr 220) (vr 221) 458 459
def Ff:Obj:=fm "__init__" "Kind.__init__" 18 0 (vr 216) z3 (vr 222)
def C_:Obj:=ot #[vs "self" 464]
def Lq:Obj:=gm "lowest" "Kind.lowest" 18 1
def Bx:Obj:=oq "lowest" 461 "Kind.lowest" 462 463 69 1 224 225 (vr 226) (vr 227) (vr 228) 465 466
def Ez:Obj:=fm "lowest" "Kind.lowest" 18 1 vn z3 (vr 229)
def Ce:Obj:=ot #[vs "self" 471]
def JL:Obj:=gm "cells" "Kind.cells" 18 2
def Ft:Obj:=oq "cells" 468 "Kind.cells" 469 470 72 1 231 232 (vr 233) (vr 234) (vr 235) 472 473
def BR:Obj:=fm "cells" "Kind.cells" 18 2 vn z3 (vr 236)
def BV:Obj:=ot #[vs "self" 478,vs "field" 479,vs "at" 480,vs "name" 481,vs "low" 482,vs "high" 483]
def JD:Obj:=gm "place_of" "Kind.place_of" 18 3
def Dm:Obj:=oq "place_of" 475 "Kind.place_of" 476 477 75 2 238 239 (vr 240) (vr 241) (vr 242) 484 485
def DX:Obj:=fm "place_of" "Kind.place_of" 18 3 vn z3 (vr 243)
def Dz:Obj:=ot #[vs "self" 490,vs "values" 491,vs "at" 492,vs "name" 493,vs "low" 494,vs "high" 495,vs "value" 496]
def JT:Obj:=gm "need" "Kind.need" 18 4
def Ec:Obj:=oq "need" 487 "Kind.need" 488 489 81 2 245 246 (vr 247) (vr 248) (vr 249) 497 498
def CP:Obj:=fm "need" "Kind.need" 18 4 vn z3 (vr 250)
def Eu:Obj:=ot #[vs "self" 503,vs "other" 504]
def Ji:Obj:=gm "__eq__" "Kind.__eq__" 18 5
def BZ:Obj:=oq "__eq__" 500 "Kind.__eq__" 501 502 88 2 252 253 (vr 254) (vr 255) (vr 256) 505 506
def Es:Obj:=fm "__eq__" "Kind.__eq__" 18 5 vn z3 (vr 257)
def BW:Obj:=ot #[vs "self" 511]
def K4:Obj:=gm "__len__" "Kind.__len__" 18 6
def Du:Obj:=oq "__len__" 508 "Kind.__len__" 509 510 91 1 259 260 (vr 261) (vr 262) (vr 263) 512 513
def B_:Obj:=fm "__len__" "Kind.__len__" 18 6 vn z3 (vr 264)
def Cr:Obj:=ot #[vs "self" 518]
def Jz:Obj:=gm "__str__" "Kind.__str__" 18 7
def Eg:Obj:=oq "__str__" 515 "Kind.__str__" 516 517 94 1 266 267 (vr 268) (vr 269) (vr 270) 519 520
def Dq:Obj:=fm "__str__" "Kind.__str__" 18 7 vn z3 (vr 271)
def By:Obj:=ot #[vs "self" 525]
def KN:Obj:=gm "__repr__" "Kind.__repr__" 18 8
def Cg:Obj:=oq "__repr__" 522 "Kind.__repr__" 523 524 97 1 273 274 (vr 275) (vr 276) (vr 277) 526 527
def Cz:Obj:=fm "__repr__" "Kind.__repr__" 18 8 vn z3 (vr 278)
def Fp:Obj:=ot #[vs "fields" 529,vs "name" 530]
def CV (P:Params):Obj:={ cls:=vt "dict",data:=Data.dict #[de P "__module__" 447 z3,de P "__firstlineno__" 451 (vi 59 450),de P "__init__" 460 (vr 223),de P "lowest" 467 (vr 230),de P "cells" 474 (vr 237),de P "place_of" 486 (vr 244),de P "need" 499 (vr 251),de P "__eq__" 507 (vr 258),de P "__len__" 514 (vr 265),de P "__str__" 521 (vr 272),de P "__repr__" 528 (vr 279),de P "__static_attributes__" 531 (vr 280),de P "__dict__" 533 (vr 283),de P "__weakref__" 535 (vr 284),de P "__doc__" 536 (vn),de P "__hash__" 537 (vn)] 5 }
def Cj:Obj:={ cls:=vt "type",data:=Data.cls { name:=u "Kind",bases:=[vt "object"],mro:=[vr 282,vt "object"],ns:=281,qualname:=u "Kind" },slots:=#[none,none,some (vs "Kind" 440),some (vs "Kind" 448),some (Value.builtin "object.__new__"),some (vb)] }
def BK:Obj:={ cls:=vt "getset_descriptor",data:=Data.fields #[vs "__dict__" 532,vr 282,Value.builtin "function.__dict__",Value.builtin "function.__dict__#set"] }
def CW:Obj:={ cls:=vt "getset_descriptor",data:=Data.fields #[vs "__weakref__" 534,vr 282,Value.builtin "ExceptionGroup.__weakref__",vn] }
def Jj:Obj:={ cls:=vt "super",data:=Data.fields #[vr 282,vr 282,vr 282] }
def Hi:Obj:={ cls:=vt "builtin_function_or_method",data:=Data.fields #[Value.builtin "object.__init_subclass__",vr 282] }
def Vc (P:Params):Obj:={ cls:=vt "dict",data:=Data.dict #[de P "__name__" 165 z4,de P "__doc__" 166 (vn),de P "__package__" 167 (vn),de P "__loader__" 168 (Value.builtin "__main__.__loader__#opaque"),de P "__spec__" 169 (vn),de P "__annotations__" 170 (vr 6),de P "__builtins__" 171 (vr 4),de P "__file__" 173 (vf 172),de P "__cached__" 174 (vn),de P "_wall" 193 (vr 21),de P "ScribeError" 225 (vr 39),de P "BadName" 250 (vr 60),de P "BadBounds" 275 (vr 80),de P "BadTest" 300 (vr 100),de P "BadWay" 325 (vr 120),de P "Taken" 350 (vr 140),de P "Full" 375 (vr 160),de P "BadValue" 400 (vr 179),de P "LIMIT" 404 (vi 999999 403),de P "MOST_LETTERS" 406 (vi 8 405),de P "MOST_FIELDS" 408 (vi 4 407),de P "is_name" 415 (vr 188),de P "need_name" 422 (vr 195),de P "need_fields" 433 (vr 202),de P "bounds_text" 439 (vr 207),de P "Kind" 539 (vr 282),de P "MOST_PARTS" 543 (vi 15 542),de P "MOST_DEEP" 545 (vi 5 544),de P "LETTERS" 547 (vs "abcdefghijklmnopqrstuvwxyz" 546),de P "FIGURES" 549 (vs "0123456789" 548),de P "WITHIN" 559 (vr 287),de P "SIGN_OF" 566 (vr 288),de P "FORM_OF" 573 (vr 289),de P "is_word" 580 (vr 296),de P "is_number" 587 (vr 303),de P "is_leaf" 595 (vr 310),de P "count_parts" 601 (vr 315),de P "is_test" 608 (vr 322),de P "need_test" 615 (vr 329),de P "leaves_within" 624 (vr 336),de P "test_text" 631 (vr 343),de P "text_within" 637 (vr 348),de P "read_test" 646 (vr 355),de P "read_part" 660 (vr 362),de P "read_within" 673 (vr 369),de P "read_number" 684 (vr 376),de P "end_of_run" 693 (vr 383),de P "behind" 702 (vr 390),de P "holds" 711 (vr 397),de P "passes" 721 (vr 404),de P "passes_leaf" 732 (vr 411),de P "parted" 742 (vr 418),de P "corners" 748 (vr 423),de P "turns" 754 (vr 428),de P "NO" 758 (vi 0 757),de P "YES" 760 (vi 1 759),de P "ROW" 762 (vi 2 761),de P "is_way" 768 (vr 433),de P "is_row" 780 (vr 440),de P "can_be_asked" 787 (vr 447),de P "leads_on" 796 (vr 454),de P "need_way" 803 (vr 461)] 62 }
def Wn:Obj:={ cls:=vn,data:=Data.fields #[vi 1 0,vi 0 0,vr 20,vi 5 0,vi 0 0,vr 27,vi 10 0,vi 0 0,vr 48,vi 14 0,vi 0 0,vr 68,vi 18 0,vi 0 0,vr 88,vi 22 0,vi 0 0,vr 108,vi 26 0,vi 0 0,vr 128,vi 30 0,vi 0 0,vr 148,vi 34 0,vi 0 0,vr 168,vi 43 0,vi 0 0,vr 187,vi 45 0,vi 0 0,vr 194,vi 48 0,vi 0 0,vr 201,vi 57 0,vi 0 0,vr 206,vi 59 0,vi 0 0,vr 213,vi 107 0,vi 0 0,vr 295,vi 109 0,vi 0 0,vr 302,vi 111 0,vi 0 0,vr 309,vi 118 0,vi 0 0,vr 314,vi 127 0,vi 0 0,vr 321,vi 129 0,vi 0 0,vr 328,vi 132 0,vi 0 0,vr 335,vi 139 0,vi 0 0,vr 342,vi 142 0,vi 0 0,vr 347,vi 150 0,vi 0 0,vr 354,vi 155 0,vi 0 0,vr 361,vi 172 0,vi 0 0,vr 368,vi 180 0,vi 0 0,vr 375,vi 189 0,vi 0 0,vr 382,vi 193 0,vi 0 0,vr 389,vi 197 0,vi 0 0,vr 396,vi 201 0,vi 0 0,vr 403,vi 210 0,vi 0 0,vr 410,vi 220 0,vi 0 0,vr 417,vi 227 0,vi 0 0,vr 422,vi 233 0,vi 0 0,vr 427,vi 245 0,vi 0 0,vr 432,vi 252 0,vi 0 0,vr 439,vi 255 0,vi 0 0,vr 446,vi 257 0,vi 0 0,vr 453,vi 259 0,vi 0 0,vr 460] }
def Hq (P:Params):Obj:={ cls:=vt "dict",data:=Data.dict #[de P "not" 550 (vi 1 551),de P "and" 552 (vi 2 553),de P "or" 554 (vi 2 555)] 3 }
def Ku (P:Params):Obj:={ cls:=vt "dict",data:=Data.dict #[de P "less" 560 (vs "<" 561),de P "same" 562 (vs "=" 563)] 2 }
def Kl (P:Params):Obj:={ cls:=vt "dict",data:=Data.dict #[de P "<" 567 (vs "less" 568),de P "=" 569 (vs "same" 570)] 2 }
def JP:Obj:=ot #[vs "thing" 577]
def Ra:Obj:=gt "is_word" 27
def IW:Obj:=ok "is_word" 574 575 576 107 1 290 291 (vr 292) (vr 293) (vr 294) 578 579
def I_:Obj:=ft "is_word" 27 vn z2 (vr 295)
def GD:Obj:=ot #[vs "thing" 584]
def O2:Obj:=gt "is_number" 28
def HY:Obj:=ok "is_number" 581 582 583 109 1 297 298 (vr 299) (vr 300) (vr 301) 585 586
def JV:Obj:=ft "is_number" 28 vn z2 (vr 302)
def JX:Obj:=ot #[vs "test" 591,vs "form" 592]
def Ri:Obj:=gt "is_leaf" 29
def o200:Obj:=ok "is_leaf" 588 589 590 111 1 304 305 (vr 306) (vr 307) (vr 308) 593 594
def KQ:Obj:=ft "is_leaf" 29 vn z2 (vr 309)
def Ox:Obj:=gt "count_parts" 30
def HD:Obj:=ok "count_parts" 596 597 598 118 2 311 312 vn vn (vr 313) 599 600
def H_:Obj:=ft "count_parts" 30 vn z2 (vr 314)
def JG:Obj:=ot #[vs "test" 605]
def Qt:Obj:=gt "is_test" 31
def Kg:Obj:=ok "is_test" 602 603 604 127 1 316 317 (vr 318) (vr 319) (vr 320) 606 607
def Kz:Obj:=ft "is_test" 31 vn z2 (vr 321)
def Lz:Obj:=ot #[vs "test" 612]
def NK:Obj:=gt "need_test" 32
def Lh:Obj:=ok "need_test" 609 610 611 129 1 323 324 (vr 325) (vr 326) (vr 327) 613 614
def Jt:Obj:=ft "need_test" 32 vn z2 (vr 328)
def Lx:Obj:=ot #[vs "test" 619,vs "found" 620,vs "part" 621]
def Oq:Obj:=gt "leaves_within" 33
def Hw:Obj:=ok "leaves_within" 616 617 618 132 1 330 331 (vr 332) (vr 333) (vr 334) 622 623
def Lk:Obj:=ft "leaves_within" 33 vn z2 (vr 335)
def Gy:Obj:=ot #[vs "test" 628]
def R6:Obj:=gt "test_text" 34
def Hn:Obj:=ok "test_text" 625 626 627 139 1 337 338 (vr 339) (vr 340) (vr 341) 629 630
def Ie:Obj:=ft "test_text" 34 vn z2 (vr 342)
def QL:Obj:=gt "text_within" 35
def Hb:Obj:=ok "text_within" 632 633 634 142 1 344 345 vn vn (vr 346) 635 636
def GZ:Obj:=ft "text_within" 35 vn z2 (vr 347)
def Ja:Obj:=ot #[vs "text" 641,vs "test" 642,vs "end" 643]
def Rr:Obj:=gt "read_test" 36
def Je:Obj:=ok "read_test" 638 639 640 150 1 349 350 (vr 351) (vr 352) (vr 353) 644 645
def K3:Obj:=ft "read_test" 36 vn z2 (vr 354)
def Il:Obj:=ot #[vs "text" 650,vs "at" 651,vs "deep" 652,vs "end" 653,vs "word" 654,vs "sign" 655,vs "number" 656,vs "after" 657]
def Pa:Obj:=gt "read_part" 37
def Ig:Obj:=ok "read_part" 647 648 649 155 3 356 357 (vr 358) (vr 359) (vr 360) 658 659
def Jf:Obj:=ft "read_part" 37 vn z2 (vr 361)
def HF:Obj:=ot #[vs "text" 664,vs "at" 665,vs "form" 666,vs "deep" 667,vs "parts" 668,vs "number" 669,vs "part" 670]
def RL:Obj:=gt "read_within" 38
def Io:Obj:=ok "read_within" 661 662 663 172 4 363 364 (vr 365) (vr 366) (vr 367) 671 672
def Kq:Obj:=ft "read_within" 38 vn z2 (vr 368)
def HH:Obj:=ot #[vs "text" 677,vs "at" 678,vs "start" 679,vs "end" 680,vs "number" 681]
def Ru:Obj:=gt "read_number" 39
def Jy:Obj:=ok "read_number" 674 675 676 180 2 370 371 (vr 372) (vr 373) (vr 374) 682 683
def Iz:Obj:=ft "read_number" 39 vn z2 (vr 375)
def Jm:Obj:=ot #[vs "text" 688,vs "at" 689,vs "signs" 690]
def O4:Obj:=gt "end_of_run" 40
def Im:Obj:=ok "end_of_run" 685 686 687 189 3 377 378 (vr 379) (vr 380) (vr 381) 691 692
def Ii:Obj:=ft "end_of_run" 40 vn z2 (vr 382)
def M5:Obj:=ot #[vs "text" 697,vs "at" 698,vs "sign" 699]
def RW:Obj:=gt "behind" 41
def Lb:Obj:=ok "behind" 694 695 696 193 3 384 385 (vr 386) (vr 387) (vr 388) 700 701
def GK:Obj:=ft "behind" 41 vn z2 (vr 389)
def Iw:Obj:=ot #[vs "test" 706,vs "kind" 707,vs "values" 708]
def Nj:Obj:=gt "holds" 42
def J7:Obj:=ok "holds" 703 704 705 197 3 391 392 (vr 393) (vr 394) (vr 395) 709 710
def Iv:Obj:=ft "holds" 42 vn z2 (vr 396)
def Km:Obj:=ot #[vs "test" 715,vs "kind" 716,vs "values" 717,vs "form" 718]
def RZ:Obj:=gt "passes" 43
def Kh:Obj:=ok "passes" 712 713 714 201 3 398 399 (vr 400) (vr 401) (vr 402) 719 720
def Hr:Obj:=ft "passes" 43 vn z2 (vr 403)
def KH:Obj:=ot #[vs "leaf" 725,vs "kind" 726,vs "values" 727,vs "form" 728,vs "place" 729]
def RM:Obj:=gt "passes_leaf" 44
def Jc:Obj:=ok "passes_leaf" 722 723 724 210 3 405 406 (vr 407) (vr 408) (vr 409) 730 731
def Lw:Obj:=ft "passes_leaf" 44 vn z2 (vr 410)
def HQ:Obj:=ot #[vs "one" 736,vs "other" 737,vs "kind" 738,vs "values" 739]
def Ol:Obj:=gt "parted" 45
def Jb:Obj:=ok "parted" 733 734 735 220 3 412 413 (vr 414) (vr 415) (vr 416) 740 741
def Ka:Obj:=ft "parted" 45 vn z2 (vr 417)
def QS:Obj:=gt "corners" 46
def JQ:Obj:=ok "corners" 743 744 745 227 2 419 420 vn vn (vr 421) 746 747
def Jl:Obj:=ft "corners" 46 vn z2 (vr 422)
def Rf:Obj:=gt "turns" 47
def JB:Obj:=ok "turns" 749 750 751 233 4 424 425 vn vn (vr 426) 752 753
def Kf:Obj:=ft "turns" 47 vn z2 (vr 427)
def Q7:Obj:=gt "is_way" 52
def Hl:Obj:=ok "is_way" 763 764 765 245 1 429 430 vn vn (vr 431) 766 767
def Lj:Obj:=ft "is_way" 52 vn z4 (vr 432)
def HB:Obj:=ot #[vs "row" 772,vs "at" 773,vs "many" 774,vs "leaf" 775,vs "yes" 776,vs "no" 777]
def Sh:Obj:=gt "is_row" 53
def KZ:Obj:=ok "is_row" 769 770 771 252 3 434 435 (vr 436) (vr 437) (vr 438) 778 779
def Kr:Obj:=ft "is_row" 53 vn z4 (vr 439)
def Ht:Obj:=ot #[vs "leaf" 784]
def QH:Obj:=gt "can_be_asked" 54
def KR:Obj:=ok "can_be_asked" 781 782 783 255 1 441 442 (vr 443) (vr 444) (vr 445) 785 786
def Hm:Obj:=ft "can_be_asked" 54 vn z4 (vr 446)
def Hz:Obj:=ot #[vs "goal" 791,vs "at" 792,vs "many" 793]
def RT:Obj:=gt "leads_on" 55
def JN:Obj:=ok "leads_on" 788 789 790 257 3 448 449 (vr 450) (vr 451) (vr 452) 794 795
def HS:Obj:=ft "leads_on" 55 vn z4 (vr 453)
def Js:Obj:=ot #[vs "way" 800]
def Pq:Obj:=gt "need_way" 56
def Hg:Obj:=ok "need_way" 797 798 799 259 1 455 456 (vr 457) (vr 458) (vr 459) 801 802
def Jo:Obj:=ft "need_way" 56 vn z4 (vr 460)
def W7 (P:Params):Obj:={ cls:=vt "dict",data:=Data.dict #[de P "__name__" 165 z5,de P "__doc__" 166 (vn),de P "__package__" 167 (vn),de P "__loader__" 168 (Value.builtin "__main__.__loader__#opaque"),de P "__spec__" 169 (vn),de P "__annotations__" 170 (vr 6),de P "__builtins__" 171 (vr 4),de P "__file__" 173 (vf 172),de P "__cached__" 174 (vn),de P "_wall" 193 (vr 21),de P "ScribeError" 225 (vr 39),de P "BadName" 250 (vr 60),de P "BadBounds" 275 (vr 80),de P "BadTest" 300 (vr 100),de P "BadWay" 325 (vr 120),de P "Taken" 350 (vr 140),de P "Full" 375 (vr 160),de P "BadValue" 400 (vr 179),de P "LIMIT" 404 (vi 999999 403),de P "MOST_LETTERS" 406 (vi 8 405),de P "MOST_FIELDS" 408 (vi 4 407),de P "is_name" 415 (vr 188),de P "need_name" 422 (vr 195),de P "need_fields" 433 (vr 202),de P "bounds_text" 439 (vr 207),de P "Kind" 539 (vr 282),de P "MOST_PARTS" 543 (vi 15 542),de P "MOST_DEEP" 545 (vi 5 544),de P "LETTERS" 547 (vs "abcdefghijklmnopqrstuvwxyz" 546),de P "FIGURES" 549 (vs "0123456789" 548),de P "WITHIN" 559 (vr 287),de P "SIGN_OF" 566 (vr 288),de P "FORM_OF" 573 (vr 289),de P "is_word" 580 (vr 296),de P "is_number" 587 (vr 303),de P "is_leaf" 595 (vr 310),de P "count_parts" 601 (vr 315),de P "is_test" 608 (vr 322),de P "need_test" 615 (vr 329),de P "leaves_within" 624 (vr 336),de P "test_text" 631 (vr 343),de P "text_within" 637 (vr 348),de P "read_test" 646 (vr 355),de P "read_part" 660 (vr 362),de P "read_within" 673 (vr 369),de P "read_number" 684 (vr 376),de P "end_of_run" 693 (vr 383),de P "behind" 702 (vr 390),de P "holds" 711 (vr 397),de P "passes" 721 (vr 404),de P "passes_leaf" 732 (vr 411),de P "parted" 742 (vr 418),de P "corners" 748 (vr 423),de P "turns" 754 (vr 428),de P "NO" 758 (vi 0 757),de P "YES" 760 (vi 1 759),de P "ROW" 762 (vi 2 761),de P "is_way" 768 (vr 433),de P "is_row" 780 (vr 440),de P "can_be_asked" 787 (vr 447),de P "leads_on" 796 (vr 454),de P "need_way" 803 (vr 461),de P "made" 811 (vr 468),de P "lay_test" 822 (vr 475),de P "lay_row" 833 (vr 482),de P "way_from" 839 (vr 487),de P "run" 850 (vr 494),de P "walk" 865 (vr 501),de P "shorter" 880 (vr 508),de P "goal_of" 888 (vr 515),de P "_law_begin" 899 (vr 522),de P "_law_pick" 910 (vr 529),de P "_law_of" 918 (vr 536),de P "_law_same" 924 (vr 541),de P "_law_word" 930 (vr 546)] 75 }
def Wr:Obj:={ cls:=vn,data:=Data.fields #[vi 1 0,vi 0 0,vr 20,vi 5 0,vi 0 0,vr 27,vi 10 0,vi 0 0,vr 48,vi 14 0,vi 0 0,vr 68,vi 18 0,vi 0 0,vr 88,vi 22 0,vi 0 0,vr 108,vi 26 0,vi 0 0,vr 128,vi 30 0,vi 0 0,vr 148,vi 34 0,vi 0 0,vr 168,vi 43 0,vi 0 0,vr 187,vi 45 0,vi 0 0,vr 194,vi 48 0,vi 0 0,vr 201,vi 57 0,vi 0 0,vr 206,vi 59 0,vi 0 0,vr 213,vi 107 0,vi 0 0,vr 295,vi 109 0,vi 0 0,vr 302,vi 111 0,vi 0 0,vr 309,vi 118 0,vi 0 0,vr 314,vi 127 0,vi 0 0,vr 321,vi 129 0,vi 0 0,vr 328,vi 132 0,vi 0 0,vr 335,vi 139 0,vi 0 0,vr 342,vi 142 0,vi 0 0,vr 347,vi 150 0,vi 0 0,vr 354,vi 155 0,vi 0 0,vr 361,vi 172 0,vi 0 0,vr 368,vi 180 0,vi 0 0,vr 375,vi 189 0,vi 0 0,vr 382,vi 193 0,vi 0 0,vr 389,vi 197 0,vi 0 0,vr 396,vi 201 0,vi 0 0,vr 403,vi 210 0,vi 0 0,vr 410,vi 220 0,vi 0 0,vr 417,vi 227 0,vi 0 0,vr 422,vi 233 0,vi 0 0,vr 427,vi 245 0,vi 0 0,vr 432,vi 252 0,vi 0 0,vr 439,vi 255 0,vi 0 0,vr 446,vi 257 0,vi 0 0,vr 453,vi 259 0,vi 0 0,vr 460,vi 262 0,vi 0 0,vr 467,vi 266 0,vi 0 0,vr 474,vi 277 0,vi 0 0,vr 481,vi 284 0,vi 0 0,vr 486,vi 298 0,vi 0 0,vr 493,vi 301 0,vi 0 0,vr 500,vi 311 0,vi 0 0,vr 507,vi 320 0,vi 0 0,vr 514,vi 325 0,vi 0 0,vr 521,vi 330 0,vi 0 0,vr 528,vi 345 0,vi 0 0,vr 535,vi 347 0,vi 0 0,vr 540,vi 357 0,vi 0 0,vr 545] }
def Ny:Obj:=ot #[vs "test" 807,vs "laid" 808]
def V0:Obj:=gt "made" 57
def Mw:Obj:=ok "made" 804 805 806 262 1 462 463 (vr 464) (vr 465) (vr 466) 809 810
def Rx:Obj:=ft "made" 57 vn z4 (vr 467)
def Qc:Obj:=ot #[vs "test" 815,vs "yes" 816,vs "no" 817,vs "laid" 818,vs "form" 819]
def V_:Obj:=gt "lay_test" 58
def RQ:Obj:=ok "lay_test" 812 813 814 266 4 469 470 (vr 471) (vr 472) (vr 473) 820 821
def Ms:Obj:=ft "lay_test" 58 vn z4 (vr 474)
def SM:Obj:=ot #[vs "leaf" 826,vs "yes" 827,vs "no" 828,vs "laid" 829,vs "row" 830]
def o300:Obj:=gt "lay_row" 59
def Pg:Obj:=ok "lay_row" 823 824 825 277 4 476 477 (vr 478) (vr 479) (vr 480) 831 832
def Mu:Obj:=ft "lay_row" 59 vn z4 (vr 481)
def Ve:Obj:=gt "way_from" 60
def N6:Obj:=ok "way_from" 834 835 836 284 2 483 484 vn vn (vr 485) 837 838
def Rb:Obj:=ft "way_from" 60 vn z4 (vr 486)
def SJ:Obj:=ot #[vs "way" 843,vs "kind" 844,vs "values" 845,vs "told" 846,vs "many" 847]
def Vx:Obj:=gt "run" 61
def Nf:Obj:=ok "run" 840 841 842 298 3 488 489 (vr 490) (vr 491) (vr 492) 848 849
def Nu:Obj:=ft "run" 61 vn z4 (vr 493)
def SN:Obj:=ot #[vs "way" 854,vs "kind" 855,vs "values" 856,vs "goal" 857,vs "rows" 858,vs "many" 859,vs "leaf" 860,vs "yes" 861,vs "no" 862]
def Vi:Obj:=gt "walk" 62
def Ql:Obj:=ok "walk" 851 852 853 301 3 495 496 (vr 497) (vr 498) (vr 499) 863 864
def Ng:Obj:=ft "walk" 62 vn z4 (vr 500)
def Mr:Obj:=ot #[vs "way" 869,vs "start" 870,vs "rows" 871,vs "laid" 872,vs "goals" 873,vs "at" 874,vs "leaf" 875,vs "yes" 876,vs "no" 877]
def V6:Obj:=gt "shorter" 63
def QM:Obj:=ok "shorter" 866 867 868 311 1 502 503 (vr 504) (vr 505) (vr 506) 878 879
def Pr:Obj:=ft "shorter" 63 vn z4 (vr 507)
def Ry:Obj:=ot #[vs "end" 884,vs "goals" 885]
def Ws:Obj:=gt "goal_of" 64
def My:Obj:=ok "goal_of" 881 882 883 320 2 509 510 (vr 511) (vr 512) (vr 513) 886 887
def Mv:Obj:=ft "goal_of" 64 vn z4 (vr 514)
def Qi:Obj:=ot #[vs "_law_script" 894,vs "_law_seed" 895,vs "_law_cell" 896]
def V4:Obj:=gt "_law_begin" 66
def Q5:Obj:=ok "_law_begin" 891 892 893 325 1 516 517 (vr 518) (vr 519) (vr 520) 897 898
def QF:Obj:=ft "_law_begin" 66 vn z5 (vr 521)
def NT:Obj:=ot #[vs "_law_d" 903,vs "_law_many" 904,vs "_law_cell" 905,vs "_law_digit" 906,vs "_law_one" 907]
def Va:Obj:=gt "_law_pick" 67
def Ni:Obj:=ok "_law_pick" 900 901 902 330 2 523 524 (vr 525) (vr 526) (vr 527) 908 909
def Mx:Obj:=ft "_law_pick" 67 vn z5 (vr 528)
def Mm:Obj:=ot #[vs "_law_d" 914,vs "_law_things" 915]
def Vj:Obj:=gt "_law_of" 68
def RX:Obj:=ok "_law_of" 911 912 913 345 2 530 531 (vr 532) (vr 533) (vr 534) 916 917
def Pk:Obj:=ft "_law_of" 68 vn z5 (vr 535)
def Wv:Obj:=gt "_law_same" 69
def QT:Obj:=ok "_law_same" 919 920 921 347 2 537 538 vn vn (vr 539) 922 923
def Rh:Obj:=ft "_law_same" 69 vn z5 (vr 540)
def V9:Obj:=gt "_law_word" 70
def Sx:Obj:=ok "_law_word" 925 926 927 357 1 542 543 vn vn (vr 544) 928 929
def Ot:Obj:=ft "_law_word" 70 vn z5 (vr 545)
def KK:Params->Frag:=fun P=>
 (nat_lit 2,{ cls:=vn,data:=Data.dict #[] })::
 (nat_lit 3,{ cls:=vt "dict",data:=Data.dict #[de P "__name__" 165 z5,de P "__doc__" 166 (vn),de P "__package__" 167 (vn),de P "__loader__" 168 (Value.builtin "__main__.__loader__#opaque"),de P "__spec__" 169 (vn),de P "__annotations__" 170 (vr 6),de P "__builtins__" 171 (vr 4),de P "__file__" 173 (vf 172),de P "__cached__" 174 (vn),de P "_wall" 193 (vr 21),de P "ScribeError" 225 (vr 39),de P "BadName" 250 (vr 60),de P "BadBounds" 275 (vr 80),de P "BadTest" 300 (vr 100),de P "BadWay" 325 (vr 120),de P "Taken" 350 (vr 140),de P "Full" 375 (vr 160),de P "BadValue" 400 (vr 179),de P "LIMIT" 404 (vi 999999 403),de P "MOST_LETTERS" 406 (vi 8 405),de P "MOST_FIELDS" 408 (vi 4 407),de P "is_name" 415 (vr 188),de P "need_name" 422 (vr 195),de P "need_fields" 433 (vr 202),de P "bounds_text" 439 (vr 207),de P "Kind" 539 (vr 282),de P "MOST_PARTS" 543 (vi 15 542),de P "MOST_DEEP" 545 (vi 5 544),de P "LETTERS" 547 (vs "abcdefghijklmnopqrstuvwxyz" 546),de P "FIGURES" 549 (vs "0123456789" 548),de P "WITHIN" 559 (vr 287),de P "SIGN_OF" 566 (vr 288),de P "FORM_OF" 573 (vr 289),de P "is_word" 580 (vr 296),de P "is_number" 587 (vr 303),de P "is_leaf" 595 (vr 310),de P "count_parts" 601 (vr 315),de P "is_test" 608 (vr 322),de P "need_test" 615 (vr 329),de P "leaves_within" 624 (vr 336),de P "test_text" 631 (vr 343),de P "text_within" 637 (vr 348),de P "read_test" 646 (vr 355),de P "read_part" 660 (vr 362),de P "read_within" 673 (vr 369),de P "read_number" 684 (vr 376),de P "end_of_run" 693 (vr 383),de P "behind" 702 (vr 390),de P "holds" 711 (vr 397),de P "passes" 721 (vr 404),de P "passes_leaf" 732 (vr 411),de P "parted" 742 (vr 418),de P "corners" 748 (vr 423),de P "turns" 754 (vr 428),de P "NO" 758 (vi 0 757),de P "YES" 760 (vi 1 759),de P "ROW" 762 (vi 2 761),de P "is_way" 768 (vr 433),de P "is_row" 780 (vr 440),de P "can_be_asked" 787 (vr 447),de P "leads_on" 796 (vr 454),de P "need_way" 803 (vr 461),de P "made" 811 (vr 468),de P "lay_test" 822 (vr 475),de P "lay_row" 833 (vr 482),de P "way_from" 839 (vr 487),de P "run" 850 (vr 494),de P "walk" 865 (vr 501),de P "shorter" 880 (vr 508),de P "goal_of" 888 (vr 515),de P "_law_begin" 899 (vr 522),de P "_law_pick" 910 (vr 529),de P "_law_of" 918 (vr 536),de P "_law_same" 924 (vr 541),de P "_law_word" 930 (vr 546),de P "_law_words" 942 (vr 553),de P "_law_number" 949 (vr 560),de P "_law_leaf" 959 (vr 567),de P "_law_tree" 971 (vr 574),de P "_law_parts" 977 (vr 579),de P "_law_deep" 983 (vr 584),de P "_law_test" 993 (vr 591),de P "_law_small_fields" 1004 (vr 598),de P "_law_all_pairs" 1010 (vr 603),de P "law" 1016 (vr 608)] 85 })::
 (nat_lit 15,o0)::
 (nat_lit 17,o6)::
 (nat_lit 18,o0)::
 (nat_lit 20,o8)::
 (nat_lit 21,o9)::
 (nat_lit 22,T3)::
 (nat_lit 29,Qy)::
 (nat_lit 30,o0)::
 (nat_lit 32,Rm)::
 (nat_lit 33,o0)::
 (nat_lit 35,N_)::
 (nat_lit 36,R0)::
 (nat_lit 37,PX)::
 (nat_lit 38,RC P)::
 (nat_lit 39,Tq)::
 (nat_lit 40,R1)::
 (nat_lit 43,jF)::
 (nat_lit 50,MT)::
 (nat_lit 51,o0)::
 (nat_lit 53,Rk)::
 (nat_lit 54,o0)::
 (nat_lit 56,OD)::
 (nat_lit 57,MK)::
 (nat_lit 58,o0)::
 (nat_lit 59,Nb P)::
 (nat_lit 60,QJ)::
 (nat_lit 63,jF)::
 (nat_lit 70,Rp)::
 (nat_lit 71,o0)::
 (nat_lit 73,R7)::
 (nat_lit 74,o0)::
 (nat_lit 76,Sq)::
 (nat_lit 77,Qa)::
 (nat_lit 78,o0)::
 (nat_lit 79,RJ P)::
 (nat_lit 80,Oz)::
 (nat_lit 83,jF)::
 (nat_lit 90,Q6)::
 (nat_lit 91,o0)::
 (nat_lit 93,M_)::
 (nat_lit 94,o0)::
 (nat_lit 96,Mj)::
 (nat_lit 97,Rn)::
 (nat_lit 98,o0)::
 (nat_lit 99,Nr P)::
 (nat_lit 100,O7)::
 (nat_lit 103,jF)::
 (nat_lit 110,NB)::
 (nat_lit 111,o0)::
 (nat_lit 113,NP)::
 (nat_lit 114,o0)::
 (nat_lit 116,Qe)::
 (nat_lit 117,Q3)::
 (nat_lit 118,o0)::
 (nat_lit 119,Rj P)::
 (nat_lit 120,Rg)::
 (nat_lit 123,jF)::
 (nat_lit 130,U7)::
 (nat_lit 131,o0)::
 (nat_lit 133,Ud)::
 (nat_lit 134,o0)::
 (nat_lit 136,T_)::
 (nat_lit 137,Tw)::
 (nat_lit 138,o0)::
 (nat_lit 139,TY P)::
 (nat_lit 140,U5)::
 (nat_lit 143,jF)::
 (nat_lit 150,o100)::
 (nat_lit 151,o0)::
 (nat_lit 153,Dn)::
 (nat_lit 154,o0)::
 (nat_lit 156,Fj)::
 (nat_lit 157,CG)::
 (nat_lit 158,o0)::
 (nat_lit 159,Fd P)::
 (nat_lit 160,Ey)::
 (nat_lit 163,jF)::
 (nat_lit 170,o0)::
 (nat_lit 172,Dk)::
 (nat_lit 173,o0)::
 (nat_lit 175,Bs)::
 (nat_lit 176,BP)::
 (nat_lit 177,Fg)::
 (nat_lit 178,CJ P)::
 (nat_lit 179,Er)::
 (nat_lit 182,o0)::
 (nat_lit 184,Fe)::
 (nat_lit 185,o0)::
 (nat_lit 187,Ep)::
 (nat_lit 188,Dj)::
 (nat_lit 189,o0)::
 (nat_lit 191,CN)::
 (nat_lit 192,o0)::
 (nat_lit 194,D_)::
 (nat_lit 195,Fv)::
 (nat_lit 196,o0)::
 (nat_lit 198,Fb)::
 (nat_lit 199,o0)::
 (nat_lit 201,Ek)::
 (nat_lit 202,Ed)::
 (nat_lit 203,o0)::
 (nat_lit 206,Cq)::
 (nat_lit 207,Cv)::
 (nat_lit 215,o0)::
 (nat_lit 216,Cy)::
 (nat_lit 217,o0)::
 (nat_lit 219,E_)::
 (nat_lit 220,o0)::
 (nat_lit 222,BJ)::
 (nat_lit 223,Ff)::
 (nat_lit 224,o0)::
 (nat_lit 226,C_)::
 (nat_lit 227,o0)::
 (nat_lit 229,Bx)::
 (nat_lit 230,Ez)::
 (nat_lit 231,o0)::
 (nat_lit 233,Ce)::
 (nat_lit 234,o0)::
 (nat_lit 236,Ft)::
 (nat_lit 237,BR)::
 (nat_lit 238,o0)::
 (nat_lit 240,BV)::
 (nat_lit 241,o0)::
 (nat_lit 243,Dm)::
 (nat_lit 244,DX)::
 (nat_lit 245,o0)::
 (nat_lit 247,Dz)::
 (nat_lit 248,o0)::
 (nat_lit 250,Ec)::
 (nat_lit 251,CP)::
 (nat_lit 252,o0)::
 (nat_lit 254,Eu)::
 (nat_lit 255,o0)::
 (nat_lit 257,BZ)::
 (nat_lit 258,Es)::
 (nat_lit 259,o0)::
 (nat_lit 261,BW)::
 (nat_lit 262,o0)::
 (nat_lit 264,Du)::
 (nat_lit 265,B_)::
 (nat_lit 266,o0)::
 (nat_lit 268,Cr)::
 (nat_lit 269,o0)::
 (nat_lit 271,Eg)::
 (nat_lit 272,Dq)::
 (nat_lit 273,o0)::
 (nat_lit 275,By)::
 (nat_lit 276,o0)::
 (nat_lit 278,Cg)::
 (nat_lit 279,Cz)::
 (nat_lit 280,Fp)::
 (nat_lit 281,CV P)::
 (nat_lit 282,Cj)::
 (nat_lit 283,BK)::
 (nat_lit 284,CW)::
 (nat_lit 287,Hq P)::
 (nat_lit 288,Ku P)::
 (nat_lit 289,Kl P)::
 (nat_lit 290,o0)::
 (nat_lit 292,JP)::
 (nat_lit 293,o0)::
 (nat_lit 295,IW)::
 (nat_lit 296,I_)::
 (nat_lit 297,o0)::
 (nat_lit 299,GD)::
 (nat_lit 300,o0)::
 (nat_lit 302,HY)::
 (nat_lit 303,JV)::
 (nat_lit 304,o0)::
 (nat_lit 306,JX)::
 (nat_lit 307,o0)::
 (nat_lit 309,o200)::
 (nat_lit 310,KQ)::
 (nat_lit 311,o0)::
 (nat_lit 314,HD)::
 (nat_lit 315,H_)::
 (nat_lit 316,o0)::
 (nat_lit 318,JG)::
 (nat_lit 319,o0)::
 (nat_lit 321,Kg)::
 (nat_lit 322,Kz)::
 (nat_lit 323,o0)::
 (nat_lit 325,Lz)::
 (nat_lit 326,o0)::
 (nat_lit 328,Lh)::
 (nat_lit 329,Jt)::
 (nat_lit 330,o0)::
 (nat_lit 332,Lx)::
 (nat_lit 333,o0)::
 (nat_lit 335,Hw)::
 (nat_lit 336,Lk)::
 (nat_lit 337,o0)::
 (nat_lit 339,Gy)::
 (nat_lit 340,o0)::
 (nat_lit 342,Hn)::
 (nat_lit 343,Ie)::
 (nat_lit 344,o0)::
 (nat_lit 347,Hb)::
 (nat_lit 348,GZ)::
 (nat_lit 349,o0)::
 (nat_lit 351,Ja)::
 (nat_lit 352,o0)::
 (nat_lit 354,Je)::
 (nat_lit 355,K3)::
 (nat_lit 356,o0)::
 (nat_lit 358,Il)::
 (nat_lit 359,o0)::
 (nat_lit 361,Ig)::
 (nat_lit 362,Jf)::
 (nat_lit 363,o0)::
 (nat_lit 365,HF)::
 (nat_lit 366,o0)::
 (nat_lit 368,Io)::
 (nat_lit 369,Kq)::
 (nat_lit 370,o0)::
 (nat_lit 372,HH)::
 (nat_lit 373,o0)::
 (nat_lit 375,Jy)::
 (nat_lit 376,Iz)::
 (nat_lit 377,o0)::
 (nat_lit 379,Jm)::
 (nat_lit 380,o0)::
 (nat_lit 382,Im)::
 (nat_lit 383,Ii)::
 (nat_lit 384,o0)::
 (nat_lit 386,M5)::
 (nat_lit 387,o0)::
 (nat_lit 389,Lb)::
 (nat_lit 390,GK)::
 (nat_lit 391,o0)::
 (nat_lit 393,Iw)::
 (nat_lit 394,o0)::
 (nat_lit 396,J7)::
 (nat_lit 397,Iv)::
 (nat_lit 398,o0)::
 (nat_lit 400,Km)::
 (nat_lit 401,o0)::
 (nat_lit 403,Kh)::
 (nat_lit 404,Hr)::
 (nat_lit 405,o0)::
 (nat_lit 407,KH)::
 (nat_lit 408,o0)::
 (nat_lit 410,Jc)::
 (nat_lit 411,Lw)::
 (nat_lit 412,o0)::
 (nat_lit 414,HQ)::
 (nat_lit 415,o0)::
 (nat_lit 417,Jb)::
 (nat_lit 418,Ka)::
 (nat_lit 419,o0)::
 (nat_lit 422,JQ)::
 (nat_lit 423,Jl)::
 (nat_lit 424,o0)::
 (nat_lit 427,JB)::
 (nat_lit 428,Kf)::
 (nat_lit 429,o0)::
 (nat_lit 432,Hl)::
 (nat_lit 433,Lj)::
 (nat_lit 434,o0)::
 (nat_lit 436,HB)::
 (nat_lit 437,o0)::
 (nat_lit 439,KZ)::
 (nat_lit 440,Kr)::
 (nat_lit 441,o0)::
 (nat_lit 443,Ht)::
 (nat_lit 444,o0)::
 (nat_lit 446,KR)::
 (nat_lit 447,Hm)::
 (nat_lit 448,o0)::
 (nat_lit 450,Hz)::
 (nat_lit 451,o0)::
 (nat_lit 453,JN)::
 (nat_lit 454,HS)::
 (nat_lit 455,o0)::
 (nat_lit 457,Js)::
 (nat_lit 458,o0)::
 (nat_lit 460,Hg)::
 (nat_lit 461,Jo)::
 (nat_lit 462,o0)::
 (nat_lit 464,Ny)::
 (nat_lit 465,o0)::
 (nat_lit 467,Mw)::
 (nat_lit 468,Rx)::
 (nat_lit 469,o0)::
 (nat_lit 471,Qc)::
 (nat_lit 472,o0)::
 (nat_lit 474,RQ)::
 (nat_lit 475,Ms)::
 (nat_lit 476,o0)::
 (nat_lit 478,SM)::
 (nat_lit 479,o0)::
 (nat_lit 481,Pg)::
 (nat_lit 482,Mu)::
 (nat_lit 483,o0)::
 (nat_lit 486,N6)::
 (nat_lit 487,Rb)::
 (nat_lit 488,o0)::
 (nat_lit 490,SJ)::
 (nat_lit 491,o0)::
 (nat_lit 493,Nf)::
 (nat_lit 494,Nu)::
 (nat_lit 495,o0)::
 (nat_lit 497,SN)::
 (nat_lit 498,o0)::
 (nat_lit 500,Ql)::
 (nat_lit 501,Ng)::
 (nat_lit 502,o0)::
 (nat_lit 504,Mr)::
 (nat_lit 505,o0)::
 (nat_lit 507,QM)::
 (nat_lit 508,Pr)::
 (nat_lit 509,o0)::
 (nat_lit 511,Ry)::
 (nat_lit 512,o0)::
 (nat_lit 514,My)::
 (nat_lit 515,Mv)::
 (nat_lit 516,o0)::
 (nat_lit 518,Qi)::
 (nat_lit 519,o0)::
 (nat_lit 521,Q5)::
 (nat_lit 522,QF)::
 (nat_lit 523,o0)::
 (nat_lit 525,NT)::
 (nat_lit 526,o0)::
 (nat_lit 528,Ni)::
 (nat_lit 529,Mx)::
 (nat_lit 530,o0)::
 (nat_lit 532,Mm)::
 (nat_lit 533,o0)::
 (nat_lit 535,RX)::
 (nat_lit 536,Pk)::
 (nat_lit 537,o0)::
 (nat_lit 540,QT)::
 (nat_lit 541,Rh)::
 (nat_lit 542,o0)::
 (nat_lit 545,Sx)::
 (nat_lit 546,Ot)::
 (nat_lit 547,o0)::
 (nat_lit 549,ot #[vs "_law_d" 934,vs "_law_many" 935,vs "_law_found" 936,vs "_law_k" 937,vs "_law_word_here" 938,vs "_law_step" 939])::
 (nat_lit 550,o0)::
 (nat_lit 552,ok "_law_words" 931 932 933 363 2 547 548 (vr 549) (vr 550) (vr 551) 940 941)::
 (nat_lit 553,ft "_law_words" 71 vn z5 (vr 552))::
 (nat_lit 554,o0)::
 (nat_lit 556,ot #[vs "_law_d" 946])::
 (nat_lit 557,o0)::
 (nat_lit 559,ok "_law_number" 943 944 945 372 1 554 555 (vr 556) (vr 557) (vr 558) 947 948)::
 (nat_lit 560,ft "_law_number" 72 vn z5 (vr 559))::
 (nat_lit 561,o0)::
 (nat_lit 563,ot #[vs "_law_d" 953,vs "_law_names" 954,vs "_law_kinds" 955,vs "_law_way" 956])::
 (nat_lit 564,o0)::
 (nat_lit 566,ok "_law_leaf" 950 951 952 374 3 561 562 (vr 563) (vr 564) (vr 565) 957 958)::
 (nat_lit 567,ft "_law_leaf" 73 vn z5 (vr 566))::
 (nat_lit 568,o0)::
 (nat_lit 570,ot #[vs "_law_d" 963,vs "_law_deep_here" 964,vs "_law_names" 965,vs "_law_kinds" 966,vs "_law_way" 967,vs "_law_word_here" 968])::
 (nat_lit 571,o0)::
 (nat_lit 573,ok "_law_tree" 960 961 962 381 4 568 569 (vr 570) (vr 571) (vr 572) 969 970)::
 (nat_lit 574,ft "_law_tree" 74 vn z5 (vr 573))::
 (nat_lit 575,o0)::
 (nat_lit 578,ok "_law_parts" 972 973 974 389 1 575 576 vn vn (vr 577) 975 976)::
 (nat_lit 579,ft "_law_parts" 75 vn z5 (vr 578))::
 (nat_lit 580,o0)::
 (nat_lit 583,ok "_law_deep" 978 979 980 393 1 580 581 vn vn (vr 582) 981 982)::
 (nat_lit 584,ft "_law_deep" 76 vn z5 (vr 583))::
 (nat_lit 585,o0)::
 (nat_lit 587,ot #[vs "_law_d" 987,vs "_law_names" 988,vs "_law_kinds" 989,vs "_law_test_here" 990])::
 (nat_lit 588,o0)::
 (nat_lit 590,ok "_law_test" 984 985 986 397 3 585 586 (vr 587) (vr 588) (vr 589) 991 992)::
 (nat_lit 591,ft "_law_test" 77 vn z5 (vr 590))::
 (nat_lit 592,o0)::
 (nat_lit 594,ot #[vs "_law_d" 997,vs "_law_names" 998,vs "_law_found" 999,vs "_law_title" 1000,vs "_law_low" 1001])::
 (nat_lit 595,o0)::
 (nat_lit 597,ok "_law_small_fields" 994 995 996 400 1 592 593 (vr 594) (vr 595) (vr 596) 1002 1003)::
 (nat_lit 598,ft "_law_small_fields" 78 vn z5 (vr 597))::
 (nat_lit 599,o0)::
 (nat_lit 602,ok "_law_all_pairs" 1005 1006 1007 407 2 599 600 vn vn (vr 601) 1008 1009)::
 (nat_lit 603,ft "_law_all_pairs" 79 vn z5 (vr 602))::
 (nat_lit 604,o0)::
 (nat_lit 607,ok "law" 1011 1012 1013 412 1 604 605 vn vn (vr 606) 1014 1015)::
 (nat_lit 608,ft "law" 80 vn z5 (vr 607))::[]
def Vb:List Addr:=[2,3,15,17,18,20,21,22,29,30,32,33,35,36,37,38,39,40,43,50,51,53,54,56,57,58,59,60,63,70,71,73,74,76,77,78,79,80,83,90,91,93,94,96,97,98,99,100,103,110,111,113,114,116,117,118,119,120,123,130,131,133,134,136,137,138,139,140,143,150,151,153,154,156,157,158,159,160,163,170,172,173,175,176,177,178,179,182,184,185,187,188,189,191,192,194,195,196,198,199,201,202,203,206,207,215,216,217,219,220,222,223,224,226,227,229,230,231,233,234,236,237,238,240,241,243,244,245,247,248,250,251,252,254,255,257,258,259,261,262,264,265,266,268,269,271,272,273,275,276,278,279,280,281,282,283,284,287,288,289,290,292,293,295,296,297,299,300,302,303,304,306,307,309,310,311,314,315,316,318,319,321,322,323,325,326,328,329,330,332,333,335,336,337,339,340,342,343,344,347,348,349,351,352,354,355,356,358,359,361,362,363,365,366,368,369,370,372,373,375,376,377,379,380,382,383,384,386,387,389,390,391,393,394,396,397,398,400,401,403,404,405,407,408,410,411,412,414,415,417,418,419,422,423,424,427,428,429,432,433,434,436,437,439,440,441,443,444,446,447,448,450,451,453,454,455,457,458,460,461,462,464,465,467,468,469,471,472,474,475,476,478,479,481,482,483,486,487,488,490,491,493,494,495,497,498,500,501,502,504,505,507,508,509,511,512,514,515,516,518,519,521,522,523,525,526,528,529,530,532,533,535,536,537,540,541,542,545,546,547,549,550,552,553,554,556,557,559,560,561,563,564,566,567,568,570,571,573,574,575,578,579,580,583,584,585,587,588,590,591,592,594,595,597,598,599,602,603,604,607,608]
theorem eK:∀ P,Vb=(KK P).map (·.1):=fun P=>by kernel_rfl
def vw:Program:={ PySem.Challenge.pw_lanescribe_k53_whole_ways_and_tests_alik with main:={ PySem.Challenge.pw_lanescribe_k53_whole_ways_and_tests_alik.main with body:=[tp 0,tp 2,tp 3,tp 4,tp 5,tp 6,tp 7,tp 8,tp 9,tp 11,tp 12,tp 13,tp 14,tp 15,tp 16,tp 17,tp 18,tp 20,tp 21,tp 22,tp 23,tp 24,tp 25,tp 26,tp 27,tp 28,tp 29,tp 30,tp 31,tp 32,tp 33,tp 34,tp 35,tp 36,tp 37,tp 38,tp 39,tp 40,tp 41,tp 42,tp 43,tp 44,tp 45,tp 46,tp 47,tp 49,tp 50,tp 51,tp 52,tp 53,tp 54,tp 55,tp 56,tp 57,tp 58,tp 59,tp 60,tp 61,tp 62,tp 63,tp 64,tp 66,tp 67,tp 68,tp 69,tp 70,tp 71,tp 72,tp 73,tp 74,tp 75,tp 76,tp 77,tp 78,tp 79,tp 80] } }
def ls:List Str:=[u "ScribeError",u "BadName",u "BadBounds",u "BadTest",u "BadWay",u "Taken",u "Full",u "Kind",u "WITHIN",u "SIGN_OF",u "FORM_OF"]
def lv:List (Str×WData):=[]
abbrev Xt:Shared->Bool:=fun s=>xlAt vw lv s && recOk (RowW.records (OpenRow.toRowW PySem.Challenge.rw_lanescribe_k53_whole_ways_and_tests_alik.row)) s
abbrev hk:Hook:=kHook KK Vb eK
theorem said:PySem.Challenge.rw_lanescribe_k53_whole_ways_and_tests_alik.wellSaid=true:=by kernel_rfl
theorem openP:opening (OpenRow.toRowW PySem.Challenge.rw_lanescribe_k53_whole_ways_and_tests_alik.row).prog=plainProg (OpenRow.toRowW PySem.Challenge.rw_lanescribe_k53_whole_ways_and_tests_alik.row).prog.main.scope.names:=by kernel_rfl
theorem yM {p:Program} {w:World} {N L:Nat} {s0 s':Shared} {t':Thread} {m0:Nat} {ann:Option Value} {β:Type} {F:Shared->β} {X:β} (h1:(s0.heap.isNs mainGlobals && s0.gens.size == 0)=true) (h2:s0.heap.objs.size=m0) (h3:s0.heap.nsMap mainGlobals "__annotations__" = ann)
 (chain:∀ r,topRun treeTable p w m0 ann L s' t'=some r->topRun treeTable p w m0 ann N s0 (topStub p)=some r)
 (last:((topRun treeTable p w m0 ann L s' t').bind fun s₁=>match staticsOk (importedModules p.main.body) s0.heap s₁.heap && namesBound p s₁.heap && gensDone s₁ && laidKept s0.heap s₁.heap with
  |true=>some s₁
  |false=>none).map F=some X):(topFrom treeTable p w N s0).map F=some X:=by
 cases hA:topRun treeTable p w m0 ann L s' t' with
 |none=>rw [hA] at last;cases last
 | some r=>
   have e:=chain r hA
   unfold topFrom
   rw [h1,h2,h3,e]
   rw [hA] at last
   exact last
abbrev pp:Program:=(OpenRow.toRowW PySem.Challenge.rw_lanescribe_k53_whole_ways_and_tests_alik.row).prog
def env:Env:={ scope:=pp.main.scope,locals:=mainNs,globals:=mainNs,cells:=[],code:=vr 13,frame:=some 14 }
abbrev cd:Code:=.body (behindTheImports pp) env
abbrev fp:Pos:={ line:=0,col:=0,endLine:=0,endCol:=0 }
abbrev an:Option Value:=some (vr 6)
abbrev yx (w:World) (os:OsState):Shared:=⟨boot_heap w.params,Array.mk [],boot_drawn,boot_toks,os⟩
def Xv (P:Params):Heap:=⟨⟨boot_o_0 P::boot_o_1 P::boot_o_2 P::boot_o_3 P::boot_o_4 P::boot_o_5 P::boot_o_6 P::boot_o_7 P::boot_o_8 P::boot_o_9 P::boot_o_10 P::o0::o1::o2::o3::[]⟩,{ }⟩
abbrev WM (w:World) (os:OsState):Shared:=⟨Xv w.params,Array.mk [],{ },187,os⟩
abbrev WT:Pos:={ line:=0,col:=0,endLine:=0,endCol:=0 }
def Xg (P:Params):Heap:=⟨⟨boot_o_0 P::boot_o_1 P::boot_o_2 P::boot_o_3 P::boot_o_4 P::boot_o_5 P::boot_o_6 P::boot_o_7 P::boot_o_8 P::boot_o_9 P::boot_o_10 P::o0::o1::o2::o3::[]⟩,{ }⟩
abbrev Wo (w:World) (os:OsState):Shared:=⟨Xg w.params,Array.mk [],{ },187,os⟩
abbrev VF:Pos:={ line:=0,col:=0,endLine:=0,endCol:=0 }
theorem X6 (w:World) (os:OsState):topGo treeTable pp w 11 an 12 (yx w os) (topStub pp)=some (WM w os,⟨denote treeTable cd,cd,WT,[topFrame fp]⟩):=by (revert w os;refine (byRow2 "special-get-raises" ?_ ?_:∀ w,_) <;> (intro w os;kernel_rfl))
theorem WY (w:World) (os:OsState):segRun treeTable pp w 11 an 1 1 (WM w os) (blockOf (behindTheImports pp) env cd WT [topFrame fp])=some (.next,Wo w os,cd,VF):=by (revert w os;refine (byRow2 "special-get-raises" ?_ ?_:∀ w,_) <;> (intro w os;kernel_rfl))
def Vr (P:Params):Heap:=⟨⟨boot_o_0 P::boot_o_1 P::boot_o_2 P::o4 P::boot_o_4 P::boot_o_5 P::boot_o_6 P::boot_o_7 P::boot_o_8 P::boot_o_9 P::boot_o_10 P::o0::o5::o2::o3::o0::o1::o6::o0::o7::o8::o9::T3::jJ::T6 P::o0::TX::TQ::Up::Qy::o0::o1::Rm::o0::Uh::N_::R0::PX::RC P::XQ::R1::T8::Uj::jF::jJ::Um P::o0::Ue::Uc::TJ::MT::o0::o1::Rk::o0::Uo::OD::MK::o0::Nb P::QJ::Te::Tc::jF::jJ::Ur P::o0::Uu::Tv::Ui::Rp::o0::o1::R7::o0::T9::Sq::Qa::o0::RJ P::Oz::TV::Td::jF::jJ::Us P::o0::Ub::Ua::Tn::Q6::o0::o1::M_::o0::Tz::Mj::Rn::o0::Nr P::O7::U6::Tt::jF::jJ::U8 P::o0::Ul::Tg::Tu::NB::o0::o1::NP::o0::T5::Qe::Q3::o0::Rj P::Rg::T7::U4::[]⟩,{ }⟩
abbrev Qw (w:World) (os:OsState):Shared:=⟨Vr w.params,Array.mk [],{ },326,os⟩
abbrev O6:Pos:={ line:=22,col:=0,endLine:=25,endCol:=51 }
abbrev Vu:List Stmt:=((behindTheImports pp).drop 0).take 7
theorem WX (w:World) (os:OsState):segRun treeTable pp w 11 an 1 1245 (Wo w os) (piecesOf Vu env cd VF [topFrame fp])=some (.next,Qw w os,cd,O6):=by (revert w os;refine (byRow2 "special-get-raises" ?_ ?_:∀ w,_) <;> (intro w os;kernel_rfl))
def Py (P:Params):Heap:=⟨⟨boot_o_0 P::boot_o_1 P::boot_o_2 P::Xn P::boot_o_4 P::boot_o_5 P::boot_o_6 P::boot_o_7 P::boot_o_8 P::boot_o_9 P::boot_o_10 P::o0::Xz::o2::o3::o0::o1::o6::o0::o7::o8::o9::T3::jJ::T6 P::o0::TX::TQ::Up::Qy::o0::o1::Rm::o0::Uh::N_::R0::PX::RC P::Tq::R1::T8::Uj::jF::jJ::Um P::o0::Ue::Uc::TJ::MT::o0::o1::Rk::o0::Uo::OD::MK::o0::Nb P::QJ::Te::Tc::jF::jJ::Ur P::o0::Uu::Tv::Ui::Rp::o0::o1::R7::o0::T9::Sq::Qa::o0::RJ P::Oz::TV::Td::jF::jJ::Us P::o0::Ub::Ua::Tn::Q6::o0::o1::M_::o0::Tz::Mj::Rn::o0::Nr P::O7::U6::Tt::jF::jJ::U8 P::o0::Ul::Tg::Tu::NB::o0::o1::NP::o0::T5::Qe::Q3::o0::Rj P::Rg::T7::U4::jF::jJ::Wq P::o0::Wg::VJ::Wx::U7::o0::o1::Ud::o0::Vw::T_::Tw::o0::TY P::U5::UT::V5::jF::jJ::V8 P::o0::UV::VD::V1::o100::o0::o1::Dn::o0::JS::Fj::CG::o0::Fd P::Ey::Ly::K7::jF::jJ::Lr P::o0::Hx::o111::Hf::o0::o1::Dk::o0::JK::Bs::BP::Fg::CJ P::Er::Ke::Hs::o0::o1::Fe::o0::L_::Ep::Dj::o0::o1::CN::o0::IV::D_::Fv::o0::o1::Fb::o0::J_::Ek::Ed::o0::o1::GX::Cq::Cv::o0::jJ::J1 P::o0::Kw::IK::Hv::o0::Cy::o0::o1::E_::o0::JH::BJ::Ff::o0::o1::C_::o0::Lq::Bx::Ez::o0::o1::Ce::o0::JL::Ft::BR::o0::o1::BV::o0::JD::Dm::DX::o0::o1::Dz::o0::JT::Ec::CP::o0::o1::Eu::o0::Ji::BZ::Es::o0::o1::BW::o0::K4::Du::B_::o0::o1::Cr::o0::Jz::Eg::Dq::o0::o1::By::o0::KN::Cg::Cz::Fp::CV P::Cj::BK::CW::Jj::Hi::[]⟩,{ }⟩
abbrev Gu (w:World) (os:OsState):Shared:=⟨Py w.params,Array.mk [],{ },540,os⟩
abbrev Gi:Pos:={ line:=59,col:=0,endLine:=98,endCol:=54 }
abbrev Li:List Stmt:=((behindTheImports pp).drop 7).take 12
theorem Wt (w:World) (os:OsState):segRun treeTable pp w 11 an 1 1384 (Qw w os) (piecesOf Li env cd O6 [topFrame fp])=some (.next,Gu w os,cd,Gi):=by (revert w os;refine (byRow2 "special-get-raises" ?_ ?_:∀ w,_) <;> (intro w os;kernel_rfl))
def Oi (P:Params):Heap:=⟨⟨boot_o_0 P::boot_o_1 P::boot_o_2 P::Vc P::boot_o_4 P::boot_o_5 P::boot_o_6 P::boot_o_7 P::boot_o_8 P::boot_o_9 P::boot_o_10 P::o0::Wn::o2::o3::o0::o1::o6::o0::o7::o8::o9::T3::jJ::T6 P::o0::TX::TQ::Up::Qy::o0::o1::Rm::o0::Uh::N_::R0::PX::RC P::Tq::R1::T8::Uj::jF::jJ::Um P::o0::Ue::Uc::TJ::MT::o0::o1::Rk::o0::Uo::OD::MK::o0::Nb P::QJ::Te::Tc::jF::jJ::Ur P::o0::Uu::Tv::Ui::Rp::o0::o1::R7::o0::T9::Sq::Qa::o0::RJ P::Oz::TV::Td::jF::jJ::Us P::o0::Ub::Ua::Tn::Q6::o0::o1::M_::o0::Tz::Mj::Rn::o0::Nr P::O7::U6::Tt::jF::jJ::U8 P::o0::Ul::Tg::Tu::NB::o0::o1::NP::o0::T5::Qe::Q3::o0::Rj P::Rg::T7::U4::jF::jJ::Wq P::o0::Wg::VJ::Wx::U7::o0::o1::Ud::o0::Vw::T_::Tw::o0::TY P::U5::UT::V5::jF::jJ::V8 P::o0::UV::VD::V1::o100::o0::o1::Dn::o0::JS::Fj::CG::o0::Fd P::Ey::Ly::K7::jF::jJ::Lr P::o0::Hx::o111::Hf::o0::o1::Dk::o0::JK::Bs::BP::Fg::CJ P::Er::Ke::Hs::o0::o1::Fe::o0::L_::Ep::Dj::o0::o1::CN::o0::IV::D_::Fv::o0::o1::Fb::o0::J_::Ek::Ed::o0::o1::GX::Cq::Cv::o0::jJ::J1 P::o0::Kw::IK::Hv::o0::Cy::o0::o1::E_::o0::JH::BJ::Ff::o0::o1::C_::o0::Lq::Bx::Ez::o0::o1::Ce::o0::JL::Ft::BR::o0::o1::BV::o0::JD::Dm::DX::o0::o1::Dz::o0::JT::Ec::CP::o0::o1::Eu::o0::Ji::BZ::Es::o0::o1::BW::o0::K4::Du::B_::o0::o1::Cr::o0::Jz::Eg::Dq::o0::o1::By::o0::KN::Cg::Cz::Fp::CV P::Cj::BK::CW::Jj::Hi::Hq P::Ku P::Kl P::o0::o1::JP::o0::Ra::IW::I_::o0::o1::GD::o0::O2::HY::JV::o0::o1::JX::o0::Ri::o200::KQ::o0::o1::Ox::HD::H_::o0::o1::JG::o0::Qt::Kg::Kz::o0::o1::Lz::o0::NK::Lh::Jt::o0::o1::Lx::o0::Oq::Hw::Lk::o0::o1::Gy::o0::R6::Hn::Ie::o0::o1::QL::Hb::GZ::o0::o1::Ja::o0::Rr::Je::K3::o0::o1::Il::o0::Pa::Ig::Jf::o0::o1::HF::o0::RL::Io::Kq::o0::o1::HH::o0::Ru::Jy::Iz::o0::o1::Jm::o0::O4::Im::Ii::o0::o1::M5::o0::RW::Lb::GK::o0::o1::Iw::o0::Nj::J7::Iv::o0::o1::Km::o0::RZ::Kh::Hr::o0::o1::KH::o0::RM::Jc::Lw::o0::o1::HQ::o0::Ol::Jb::Ka::o0::o1::QS::JQ::Jl::o0::o1::Rf::JB::Kf::o0::o1::Q7::Hl::Lj::o0::o1::HB::o0::Sh::KZ::Kr::o0::o1::Ht::o0::QH::KR::Hm::o0::o1::Hz::o0::RT::JN::HS::o0::o1::Js::o0::Pq::Hg::Jo::[]⟩,{ }⟩
abbrev FT (w:World) (os:OsState):Shared:=⟨Oi w.params,Array.mk [],{ },804,os⟩
abbrev Gp:Pos:={ line:=259,col:=0,endLine:=261,endCol:=43 }
abbrev KD:List Stmt:=((behindTheImports pp).drop 19).take 38
theorem Vv (w:World) (os:OsState):segRun treeTable pp w 11 an 1 1001 (Gu w os) (piecesOf KD env cd Gi [topFrame fp])=some (.next,FT w os,cd,Gp):=by (revert w os;refine (byRow2 "special-get-raises" ?_ ?_:∀ w,_) <;> (intro w os;kernel_rfl))
def R5 (P:Params):Heap:=⟨⟨boot_o_0 P::boot_o_1 P::boot_o_2 P::W7 P::boot_o_4 P::boot_o_5 P::boot_o_6 P::boot_o_7 P::boot_o_8 P::boot_o_9 P::boot_o_10 P::o0::Wr::o2::o3::o0::o1::o6::o0::o7::o8::o9::T3::jJ::T6 P::o0::TX::TQ::Up::Qy::o0::o1::Rm::o0::Uh::N_::R0::PX::RC P::Tq::R1::T8::Uj::jF::jJ::Um P::o0::Ue::Uc::TJ::MT::o0::o1::Rk::o0::Uo::OD::MK::o0::Nb P::QJ::Te::Tc::jF::jJ::Ur P::o0::Uu::Tv::Ui::Rp::o0::o1::R7::o0::T9::Sq::Qa::o0::RJ P::Oz::TV::Td::jF::jJ::Us P::o0::Ub::Ua::Tn::Q6::o0::o1::M_::o0::Tz::Mj::Rn::o0::Nr P::O7::U6::Tt::jF::jJ::U8 P::o0::Ul::Tg::Tu::NB::o0::o1::NP::o0::T5::Qe::Q3::o0::Rj P::Rg::T7::U4::jF::jJ::Wq P::o0::Wg::VJ::Wx::U7::o0::o1::Ud::o0::Vw::T_::Tw::o0::TY P::U5::UT::V5::jF::jJ::V8 P::o0::UV::VD::V1::o100::o0::o1::Dn::o0::JS::Fj::CG::o0::Fd P::Ey::Ly::K7::jF::jJ::Lr P::o0::Hx::o111::Hf::o0::o1::Dk::o0::JK::Bs::BP::Fg::CJ P::Er::Ke::Hs::o0::o1::Fe::o0::L_::Ep::Dj::o0::o1::CN::o0::IV::D_::Fv::o0::o1::Fb::o0::J_::Ek::Ed::o0::o1::GX::Cq::Cv::o0::jJ::J1 P::o0::Kw::IK::Hv::o0::Cy::o0::o1::E_::o0::JH::BJ::Ff::o0::o1::C_::o0::Lq::Bx::Ez::o0::o1::Ce::o0::JL::Ft::BR::o0::o1::BV::o0::JD::Dm::DX::o0::o1::Dz::o0::JT::Ec::CP::o0::o1::Eu::o0::Ji::BZ::Es::o0::o1::BW::o0::K4::Du::B_::o0::o1::Cr::o0::Jz::Eg::Dq::o0::o1::By::o0::KN::Cg::Cz::Fp::CV P::Cj::BK::CW::Jj::Hi::Hq P::Ku P::Kl P::o0::o1::JP::o0::Ra::IW::I_::o0::o1::GD::o0::O2::HY::JV::o0::o1::JX::o0::Ri::o200::KQ::o0::o1::Ox::HD::H_::o0::o1::JG::o0::Qt::Kg::Kz::o0::o1::Lz::o0::NK::Lh::Jt::o0::o1::Lx::o0::Oq::Hw::Lk::o0::o1::Gy::o0::R6::Hn::Ie::o0::o1::QL::Hb::GZ::o0::o1::Ja::o0::Rr::Je::K3::o0::o1::Il::o0::Pa::Ig::Jf::o0::o1::HF::o0::RL::Io::Kq::o0::o1::HH::o0::Ru::Jy::Iz::o0::o1::Jm::o0::O4::Im::Ii::o0::o1::M5::o0::RW::Lb::GK::o0::o1::Iw::o0::Nj::J7::Iv::o0::o1::Km::o0::RZ::Kh::Hr::o0::o1::KH::o0::RM::Jc::Lw::o0::o1::HQ::o0::Ol::Jb::Ka::o0::o1::QS::JQ::Jl::o0::o1::Rf::JB::Kf::o0::o1::Q7::Hl::Lj::o0::o1::HB::o0::Sh::KZ::Kr::o0::o1::Ht::o0::QH::KR::Hm::o0::o1::Hz::o0::RT::JN::HS::o0::o1::Js::o0::Pq::Hg::Jo::o0::o1::Ny::o0::V0::Mw::Rx::o0::o1::Qc::o0::V_::RQ::Ms::o0::o1::SM::o0::o300::Pg::Mu::o0::o1::Ve::N6::Rb::o0::o1::SJ::o0::Vx::Nf::Nu::o0::o1::SN::o0::Vi::Ql::Ng::o0::o1::Mr::o0::V6::QM::Pr::o0::o1::Ry::o0::Ws::My::Mv::o0::o1::Qi::o0::V4::Q5::QF::o0::o1::NT::o0::Va::Ni::Mx::o0::o1::Mm::o0::Vj::RX::Pk::o0::o1::Wv::QT::Rh::o0::o1::V9::Sx::Ot::[]⟩,{ }⟩
abbrev oV (w:World) (os:OsState):Shared:=⟨R5 w.params,Array.mk [],{ },931,os⟩
abbrev pC:Pos:={ line:=357,col:=0,endLine:=362,endCol:=81 }
abbrev Hh:List Stmt:=((behindTheImports pp).drop 57).take 14
theorem Wb (w:World) (os:OsState):segRun treeTable pp w 11 an 1 415 (FT w os) (piecesOf Hh env cd Gp [topFrame fp])=some (.next,oV w os,cd,pC):=by (revert w os;refine (byRow2 "special-get-raises" ?_ ?_:∀ w,_) <;> (intro w os;kernel_rfl))
abbrev J3:List Stmt:=(behindTheImports pp).drop 71
theorem T4:behindTheImports pp=(Vu++(Li++(KD++(Hh++J3)))):=by kernel_rfl
abbrev wf (w:World):World:=w.withFollow "special-get-raises" false
theorem Rc (w:World) (os:OsState):((topRun treeTable pp (wf w) 11 an 799 (oV (wf w) os) (restOf J3 env cd pC [topFrame fp])).bind fun s₁=>match staticsOk (importedModules pp.main.body) (yx (wf w) os).heap s₁.heap && namesBound pp s₁.heap && gensDone s₁ && laidKept (yx (wf w) os).heap s₁.heap with
 |true=>some s₁
 |false=>none).map (fun s=>(openSeen vw ls (importedModules pp.main.body) Xt true s,hk.obs s))=some (openGood vw ls,hk.val (wf w)):=by kernel_rfl
abbrev wt (w:World):World:=w.withFollow "special-get-raises" true
theorem SX (w:World) (os:OsState):((topRun treeTable pp (wt w) 11 an 799 (oV (wt w) os) (restOf J3 env cd pC [topFrame fp])).bind fun s₁=>match staticsOk (importedModules pp.main.body) (yx (wt w) os).heap s₁.heap && namesBound pp s₁.heap && gensDone s₁ && laidKept (yx (wt w) os).heap s₁.heap with
 |true=>some s₁
 |false=>none).map (fun s=>(openSeen vw ls (importedModules pp.main.body) Xt true s,hk.obs s))=some (openGood vw ls,hk.val (wt w)):=by kernel_rfl
theorem last (w:World) (os:OsState):((topRun treeTable pp w 11 an 799 (oV w os) (restOf J3 env cd pC [topFrame fp])).bind fun s₁=>match staticsOk (importedModules pp.main.body) (yx w os).heap s₁.heap && namesBound pp s₁.heap && gensDone s₁ && laidKept (yx w os).heap s₁.heap with
 |true=>some s₁
 |false=>none).map (fun s=>(openSeen vw ls (importedModules pp.main.body) Xt true s,hk.obs s))=some (openGood vw ls,hk.val w):=byRow2 "special-get-raises" (P:=fun w=>((topRun treeTable pp w 11 an 799 (oV w os) (restOf J3 env cd pC [topFrame fp])).bind fun s₁=>match staticsOk (importedModules pp.main.body) (yx w os).heap s₁.heap && namesBound pp s₁.heap && gensDone s₁ && laidKept (yx w os).heap s₁.heap with
 |true=>some s₁
 |false=>none).map (fun s=>(openSeen vw ls (importedModules pp.main.body) Xt true s,hk.obs s))=some (openGood vw ls,hk.val w)) (fun w=>Rc w os) (fun w=>SX w os) w
theorem chain (w:World) (os:OsState) (r:Shared) (h:topRun treeTable pp w 11 an 799 (oV w os) (restOf J3 env cd pC [topFrame fp])=some r):topRun treeTable pp w 11 an 4857 (yx w os) (topStub pp)=some r:=by
 have k:topRun treeTable pp w 11 an 4844 (Wo w os) (restOf (Vu++(Li++(KD++(Hh++J3)))) env cd VF [topFrame fp])=some r:=piece_app (WX w os) (piece_app (Wt w os) (piece_app (Vv w os) (piece_app (Wb w os) (h))))
 rw [← T4] at k
 exact go_top (n:=12) (N:=4845) (X6 w os) (piece_block (n:=1) (N:=4844) (WY w os) k)
theorem run (w:World) (os:OsState):(topFrom treeTable pp w 4857 (yx w os)).map (fun s=>(openSeen vw ls (importedModules pp.main.body) Xt true s,hk.obs s))=some (openGood vw ls,hk.val w):=yM (s0:=yx w os) (by kernel_rfl) (by kernel_rfl) (by kernel_rfl) (chain w os) (last w os)
theorem left:LeftO (OpenRow.toRowW PySem.Challenge.rw_lanescribe_k53_whole_ways_and_tests_alik.row).prog vw ls Xt hk.obs hk.val 4857:=wU openP (by decide) (fun s=>by kernel_rfl) run
theorem head (hw:(OpenRow.toRowW PySem.Challenge.rw_lanescribe_k53_whole_ways_and_tests_alik.row).promised) {d:DefRec} {kwd:List (Str×Expr)} (hdef:defOf vw PySem.Challenge.rw_lanescribe_k53_whole_ways_and_tests_alik.row.name=some (d,kwd)) (hp:PySem.Challenge.rw_lanescribe_k53_whole_ways_and_tests_alik.row.prog.theDef PySem.Challenge.rw_lanescribe_k53_whole_ways_and_tests_alik.row.name=some (d.params,d.body,d.scope)) (hk1:kwWritten? d.params.kwonlyargs d.params.kw_defaults=some kwd)
 (hc:WalkO vw ls (XL vw lv) (kHook KK Vb eK).says (OpenRow.toRowW PySem.Challenge.rw_lanescribe_k53_whole_ways_and_tests_alik.row) d kwd fun f vs=>PySem.call f vs):PySem.Challenge.rw_lanescribe_k53_whole_ways_and_tests_alik.Holds:=
 holds_law said fun said'=>holds_open (q:=vw) (loose:=ls) (Xt:=Xt) (XP:=XL vw lv) (Yf:=hk.obs) (Ya:=hk.val) (YP:=hk.says) (N:=4857) left hk.of hk.keeps (fun s e=>xl_of s (Bool.and_eq_true_iff.mp e).1) XL.keeps hdef hp hk1 (fun s e=>recFacts_of (Bool.and_eq_true_iff.mp e).2) (by rfl) said' (by decide +kernel) ⟨rfl,rfl,rfl,rfl,rfl,by decide +kernel⟩ hw hc
end
end Kd
local macro_rules|`(tactic|ext)=>`(tactic|first|exact ⟨rfl,rfl,rfl,by decide +kernel,rfl,by decide +kernel,by decide +kernel⟩|exact ⟨rfl,by decide +kernel,by decide +kernel,by decide +kernel,rfl,by decide +kernel⟩|exact Nat.le_of_ble_eq_true rfl|(intro _ _ _ _ h;repeat first|exact congrArg List.length h.1|obtain ⟨_,h⟩:=h)|decide +kernel)
namespace L2
open PySem PySem.Spec PyProof.Rows
abbrev Key:=Sum Int Str
def oM:Key->Value->Bool
 |.inl k,v=>Value.isInt k v
 |.inr x,v=>Value.isStrOf x v
def VL (w:World):Key->Int
 |.inl k=>hashInt k
 |.inr x=>hashStr w x
theorem cN:∀ {k:Key} {v:Value},oM k v=true->(∃ i t,k=Sum.inl i/\v=Value.int i t)∨(∃ x t,k=Sum.inr x/\v=Value.str x t)
 | .inl i,v,h=>by
   obtain ⟨t,e⟩:=Value.isInt_shape (k:=i) (v:=v) h
   exact .inl ⟨i,t,rfl,e⟩
 | .inr x,v,h=>by
   obtain ⟨t,e⟩:=Value.isStrOf_shape (x:=x) (v:=v) h
   exact .inr ⟨x,t,rfl,e⟩
theorem wV (i:Int) (t:Tok):oM (.inl i) (.int i t)=true:=by simp [oM,Value.isInt]
theorem xN (x:Str) (t:Tok):oM (.inr x) (.str x t)=true:=by simp [oM,Value.isStrOf]
theorem HX (a b:Int):decide ((Sum.inl a:Key)=Sum.inl b)=(a == b):=by
 by_cases e:a=b
 ·subst e;simp
 ·have h:¬ (Sum.inl a:Key)=Sum.inl b:=fun q=>e (Sum.inl.inj q)
  rw [decide_eq_false h]
  exact (beq_eq_false_iff_ne.mpr e).symm
theorem Kc (a b:Str):decide ((Sum.inr a:Key)=Sum.inr b)=decide (a=b):=by
 by_cases e:a=b
 ·subst e;simp
 ·have h:¬ (Sum.inr a:Key)=Sum.inr b:=fun q=>e (Sum.inr.inj q)
  rw [decide_eq_false h,decide_eq_false e]
theorem Ju (a:Int) (b:Str):decide ((Sum.inl a:Key)=Sum.inr b)=false:=decide_eq_false (fun q=>nomatch q)
theorem Hy (a:Str) (b:Int):decide ((Sum.inr a:Key)=Sum.inl b)=false:=decide_eq_false (fun q=>nomatch q)
def d9 (prog:Program) (w:World):PySem.KeyKind prog w Key where
 is:=oM
 hash:=VL w
 inj:=fun v a b ha hb=>by
  rcases cN ha with ⟨i,t,rfl,rfl⟩|⟨x,t,rfl,rfl⟩
  ·rcases cN hb with ⟨j,u,rfl,e⟩|⟨y,u,rfl,e⟩
   ·injection e with e1 _;rw [e1]
   ·exact nomatch e
  ·rcases cN hb with ⟨j,u,rfl,e⟩|⟨y,u,rfl,e⟩
   ·exact nomatch e
   ·injection e with e1 _;rw [e1]
 byValue:=fun k v h=>by
  rcases cN h with ⟨i,t,rfl,rfl⟩|⟨x,t,rfl,rfl⟩ <;> rfl
 pyHash:=fun hv h=>by
  rcases cN hv with ⟨i,t,rfl,rfl⟩|⟨x,t,rfl,rfl⟩
  ·exact wpAny_pyHash_int h
  ·exact wpAny_pyHash_str h
 eqBool:=fun hu hv h=>by
  rcases cN hu with ⟨i,t,rfl,rfl⟩|⟨x,t,rfl,rfl⟩
  ·rcases cN hv with ⟨j,u,rfl,rfl⟩|⟨y,u,rfl,rfl⟩
   ·rw [HX] at h;exact wpAny_eqBool_int h
   ·rw [Ju] at h;exact SeqAt.EqAt.int_str i t y u _ _ _ _ h
  ·rcases cN hv with ⟨j,u,rfl,rfl⟩|⟨y,u,rfl,rfl⟩
   ·rw [Hy] at h;exact SeqAt.EqAt.str_int x t j u _ _ _ _ h
   ·rw [Kc] at h;exact wpAny_eqBool_str h
 «strs»:=fun k x t v h=>by
  rcases cN h with ⟨i,u,rfl,e⟩|⟨y,u,rfl,e⟩
  ·exact nomatch e
  ·injection e with e1 _
   subst e1
   cases v <;> rfl
theorem rR (prog:Program) (w:World) (i:Int) (t:Tok):(d9 prog w).is (.inl i) (.int i t)=true:=wV i t
theorem rN (prog:Program) (w:World) (x:Str) (t:Tok):(d9 prog w).is (.inr x) (.str x t)=true:=xN x t
inductive V where
 |non|bl (b:Bool)|int (i:Int)|str (x:Str)|byt (b:Array UInt8)|flt (b:UInt64)|ref (a:Addr)|ty (n:String)
 deriving DecidableEq
def RelV:V->Value->Prop
 |.non,u=>u=Value.none
 |.bl b,u=>u=Value.bool b
 |.int i,u=>∃ t,u=Value.int i t
 |.str x,u=>∃ t,u=Value.str x t
 |.byt b,u=>∃ t,u=Value.bytes b t
 |.flt b,u=>∃ t,u=Value.float b t
 |.ref a,u=>u=Value.ref a
 |.ty n,u=>u=Value.type n
abbrev Vals:List V->List Value->Prop:=Paired RelV
theorem Vals.length (r:Vals xs us):xs.length=us.length:=Paired.length r
theorem Vals.get:∀ {xs:List V} {us:List Value} {i:Nat} {x:V},Vals xs us->xs[i]?=some x->∃ u,us[i]?=some u/\RelV x u
 |_,_,_,_,.nil,e=>by simp at e
 |_,_,0,_,.cons r _,e=>by simp at e;subst e;exact ⟨_,rfl,r⟩
 | _,_,i+1,x,.cons _ t,e=>by
   obtain ⟨u,h1,h2⟩:=Vals.get (i:=i) (x:=x) t (by simpa using e)
   exact ⟨u,by simpa using h1,h2⟩
theorem Vals.append:∀ {xs ys:List V} {us ws:List Value},Vals xs us->Vals ys ws->Vals (xs++ys) (us++ws)
 |_,_,_,_,.nil,s=>s
 |_,_,_,_,.cons r t,s=>.cons r (Vals.append t s)
theorem Vals.take:∀ {xs:List V} {us:List Value} (n:Nat),Vals xs us->Vals (xs.take n) (us.take n)
 |_,_,0,_=>.nil
 |_,_,_+1,.nil=>.nil
 |_,_,n+1,.cons r t=>.cons r (Vals.take n t)
theorem Vals.drop:∀ {xs:List V} {us:List Value} (n:Nat),Vals xs us->Vals (xs.drop n) (us.drop n)
 |_,_,0,r=>r
 |_,_,_+1,.nil=>.nil
 |_,_,n+1,.cons _ t=>Vals.drop n t
def jA:Option V->Option Value->Prop
 |some v,some u=>RelV v u
 |none,none=>True
 |_,_=>False
def KV {κ:Type}:List (κ×V)->List (κ×Value)->Prop:=Paired fun (p:κ×V) (q:κ×Value)=>p.1=q.1/\RelV p.2 q.2
def kV:Key->V
 |.inl i=>.int i
 |.inr x=>.str x
inductive HO where
 |lst (xs:List V)
 |tup (xs:List V)
 |dK (kvs:List (Key×V))|dT (kvs:List (List Key×V))
 |set (S:Int->Bool) (n:Nat)
 |ins (C dx:Addr) (fs:List (Str×V))
 |own (x:Addr)
 |xd (fs:List (Str×V))
 |met (f x:Addr)
 |rng (lo hi:Int)
 |frz (o:Obj) (u:HO)
 |tbl (ps:Array Value)
 |ext (φ:Heap->Prop)
abbrev Hp:=Addr->Option HO
def upd (H:Hp) (a:Addr) (o:HO):Hp:=fun b=>if b=a then some o else H b
theorem ao:upd H a o a=some o:=by unfold upd;rw [if_pos rfl]
theorem aH (h:b≠a):upd H a o b=H b:=by unfold upd;rw [if_neg h]
theorem BX:upd (upd H a o) a u=upd H a u:=by
 funext b;unfold upd;split <;> rfl
theorem fc {H:Hp} (h:H a=some o) (h':H b=some u) (d:o≠u):a≠b:=by
 intro e;subst e;rw [h] at h';exact d (Option.some.inj h')
theorem aB {H:Hp} (h:H a=some o) (h':H b=none):a≠b:=by
 intro e;subst e;rw [h] at h';cases h'
section
variable (P:Program) (w:World)
def cX (H:Hp) (h:Heap) (a:Addr):HO->Prop
 |.lst xs=>xs.length≤sizeLine/\∃ (its:List Value) (n:Nat),Vals xs its/\h.get? a=some { cls:=.type "list",data:=.seq its.toArray n }
 |.tup xs=>xs.length≤sizeLine/\∃ its:List Value,Vals xs its/\IsTup h a its.toArray
 |.dK kvs=>kvs.length≤sizeLine/\(a == sysModules)=false/\∃ vs,KV kvs vs/\h.DictOf (d9 P w) a vs
 |.dT kvs=>kvs.length≤sizeLine/\(a == sysModules)=false/\∃ xs:List (List Key×Addr×Value),
  Paired (fun (p:List Key×V) (q:List Key×Addr×Value)=>p.1=q.1/\H q.2.1=some (.tup (p.1.map kV))/\RelV p.2 q.2.2) kvs xs/\
  ∃ o es ep,h.get? a=some o/\o.ExactDict/\o.data=.dict es ep/\es.toList=xs.map (entryOfKey (tupleKind (d9 P w)))/\(xs.map (·.1)).Nodup
 |.set S n=>h.SetOf (intKind P w) a S n
 |.ins C dx fs=>H dx=some (.own a)/\fs.length≤1000/\dx≠a/\h.get? a=some (PySem.W.instObj C dx)/\
  ∃ mA,h.Ns1 dx mA/\(∀ f,jA (fs.lookup f) (mA f))/\PySem.Within mA (fs.map (·.1))
 |.own _=>∃ o,h.get? a=some o
 |.xd fs=>∃ mA,h.Ns1 a mA/\∀ f,jA (fs.lookup f) (mA f)
 |.rng lo hi=>∃ t u v,h.get? a=some { cls:=.type "range",data:=.fields #[.int lo t,.int hi u,.int 1 v] }
 |.frz o u=>h.get? a=some o/\cX H h a u
 |.tbl ps=>h.get? a=some { cls:=.none,data:=.fields ps }
 |.met f x=>h.get? a=some (PySem.W.methodObj (.ref f) (.ref x))
 |.ext φ=>φ h/\(∃ o,h.get? a=some o)/\∀ h1 h2:Heap,φ h1->(∀ o,h1.get? a=some o->h2.get? a=some o)->φ h2
def jK (H:Hp) (h:Heap):Prop:=∀ a o,H a=some o->cX P w H h a o
end
theorem cX.lt (x:cX P w H h a o):a<h.objs.size:=by
 cases o with
 |lst xs=>obtain ⟨_,_,_,_,e⟩:=x;exact Heap.lt_size e
 |tup xs=>obtain ⟨_,_,_,p⟩:=x;exact p.lt
 |dK kvs=>obtain ⟨_,_,_,_,o,_,_,e,_⟩:=x;exact Heap.lt_size e
 |dT kvs=>obtain ⟨_,_,_,_,o,_,_,e,_⟩:=x;exact Heap.lt_size e
 |set S n=>obtain ⟨o,_,_,_,e,_⟩:=x;exact Heap.lt_size e
 |ins C dx fs=>obtain ⟨_,_,_,e,_⟩:=x;exact Heap.lt_size e
 |own y=>obtain ⟨_,e⟩:=x;exact Heap.lt_size e
 |xd fs=>obtain ⟨_,⟨_,_,_,e,_⟩,_⟩:=x;exact Heap.lt_size e
 |rng lo hi=>obtain ⟨_,_,_,e⟩:=x;exact Heap.lt_size e
 |frz ob u=>obtain ⟨e,_⟩:=x;exact Heap.lt_size e
 |tbl ps=>exact Heap.lt_size (show h.get? a=some _ from x)
 |met f y=>exact Heap.lt_size (show h.get? a=some _ from x)
 |ext φ=>obtain ⟨_,⟨_,e⟩,_⟩:=x;exact Heap.lt_size e
theorem Paired.mapP {α β:Type} {F G:α->β->Prop}:∀ {l₁:List α} {l₂:List β},Paired F l₁ l₂->(∀ a b,F a b->G a b)->Paired G l₁ l₂
 |_,_,.nil,_=>.nil
 |_,_,.cons r t,f=>.cons (f _ _ r) (Paired.mapP t f)
theorem cX.stay {H H':Hp} {h h':Heap} (x:cX P w H h a o) (k:∀ b u,(b=a∨H b=some (.own a))->h.get? b=some u->h'.get? b=some u)
 (ho:∀ b,H b=some (.own a)->H' b=some (.own a)) (ht:∀ b xs,H b=some (.tup xs)->H' b=some (.tup xs)):cX P w H' h' a o:=by
 induction o with
 |lst xs=>obtain ⟨z,its,n,r,e⟩:=x;exact ⟨z,its,n,r,k _ _ (.inl rfl) e⟩
 |tup xs=>obtain ⟨z,its,r,ob,e,c⟩:=x;exact ⟨z,its,r,ob,k _ _ (.inl rfl) e,c⟩
 |dK kvs=>obtain ⟨z,y,vs,r,ob,es,ep,e,c⟩:=x;exact ⟨z,y,vs,r,ob,es,ep,k _ _ (.inl rfl) e,c⟩
 | dT kvs=>
   obtain ⟨z,y,xs,r,ob,es,ep,e,c⟩:=x
   exact ⟨z,y,xs,Paired.mapP r fun p q z=>⟨z.1,ht _ _ z.2.1,z.2.2⟩,ob,es,ep,k _ _ (.inl rfl) e,c⟩
 |set S n=>obtain ⟨ob,es,ep,t,e,c⟩:=x;exact ⟨ob,es,ep,t,k _ _ (.inl rfl) e,c⟩
 | ins C dx fs=>
   obtain ⟨d,z,ne,e,mA,⟨od,es,ep,e2,c⟩,r⟩:=x
   exact ⟨ho _ d,z,ne,k _ _ (.inl rfl) e,mA,⟨od,es,ep,k _ _ (.inr d) e2,c⟩,r⟩
 |own y=>obtain ⟨ob,e⟩:=x;exact ⟨ob,k _ _ (.inl rfl) e⟩
 |xd fs=>obtain ⟨mA,⟨od,es,ep,e,c⟩,r⟩:=x;exact ⟨mA,⟨od,es,ep,k _ _ (.inl rfl) e,c⟩,r⟩
 |rng lo hi=>obtain ⟨t,u,v,e⟩:=x;exact ⟨t,u,v,k _ _ (.inl rfl) e⟩
 |frz ob u ih=>obtain ⟨e,q⟩:=x;exact ⟨k _ _ (.inl rfl) e,ih q⟩
 | tbl ps=>
   have e:h.get? a=some { cls:=.none,data:=.fields ps }:=x
   show h'.get? a=some { cls:=.none,data:=.fields ps }
   exact k a _ (.inl rfl) e
 | met f y=>
   have e:h.get? a=some (PySem.W.methodObj (.ref f) (.ref y)):=x
   show h'.get? a=some (PySem.W.methodObj (.ref f) (.ref y))
   exact k a _ (.inl rfl) e
 |ext φ=>obtain ⟨p,⟨o,e⟩,st⟩:=x;exact ⟨st _ _ p fun o q=>k _ _ (.inl rfl) q,⟨o,k _ _ (.inl rfl) e⟩,st⟩
theorem jK.lt (x:jK P w H h) (e:H a=some o):a<h.objs.size:=(x a o e).lt
theorem jK.fresh (x:jK P w H h) (e:h.objs.size≤a):H a=none:=by
 cases q:H a with
 |none=>rfl
 |some u=>exact absurd (Nat.lt_of_lt_of_le (x.lt q) e) (Nat.lt_irrefl _)
theorem jK.kept (x:jK P w H h) (k:∀ b u,h.get? b=some u->h'.get? b=some u):jK P w H h':=fun a o e=>
 (x a o e).stay (fun b u _ q=>k b u q) (fun _ q=>q) fun _ _ q=>q
theorem jK.laid {h h':Heap} (x:jK P w H h) (k:∀ b u,h.get? b=some u->h'.get? b=some u) (hp:h.objs.size≤a) (new:cX P w (upd H a o) h' a o):jK P w (upd H a o) h':=fun b u e=>by
 have hn:=x.fresh hp
 by_cases hb:b=a
 ·subst hb;rw [ao] at e;cases e;exact new
 ·rw [aH hb] at e
  exact (x b u e).stay (fun c v _ q=>k c v q) (fun c q=>by rw [aH (aB q hn)];exact q) fun c xs q=>by rw [aH (aB q hn)];exact q
def Rd (H:Hp) (a:Addr) (u:HO):Prop:=H a=some u∨∃ o,H a=some (.frz o u)
theorem Rd.ok (r:Rd H a u) (x:jK P w H h):cX P w H h a u:=by
 rcases r with r|⟨o,r⟩
 ·exact x a u r
 ·obtain ⟨_,q⟩:=x a _ r
  exact q
def Om:Option HO->Prop
 |some (.lst _)=>True
 |some (.dK _)=>True
 |some (.dT _)=>True
 |some (.set _ _)=>True
 |some (.ins _ _ _)=>True
 |some (.ext _)=>True
 |_=>False
theorem jK.write (ok:jK P w H h) (mu:Om (H x)) (he:e=x∨H e=some (.own x)) (k:∀ b u,b≠e->h.get? b=some u->h'.get? b=some u) (heo:∃ u,h'.get? e=some u)
 (new:cX P w (upd H x o') h' x o'):jK P w (upd H x o') h':=fun b u q=>by
 have nown:∀ c y,H c=some (.own y)->c≠x:=fun c y r z=>by subst z;rw [r] at mu;exact mu
 have ntup:∀ c xs,H c=some (.tup xs)->c≠x:=fun c xs r z=>by subst z;rw [r] at mu;exact mu
 by_cases hb:b=x
 ·subst hb;rw [ao] at q;cases q;exact new
 ·rw [aH hb] at q
  by_cases hbe:b=e
  ·have q':H b=some (.own x):=by
    rcases he with z|z
    ·exact absurd (hbe.trans z) hb
    ·rw [hbe];exact z
   rw [q] at q';cases q'
   obtain ⟨v,hv⟩:=heo
   exact ⟨v,by rw [hbe];exact hv⟩
  ·refine (ok b u q).stay (fun c v hc r=>k c v ?_ r) (fun c r=>by rw [aH (nown c b r)];exact r) fun c xs r=>by rw [aH (ntup c xs r)];exact r
   rcases hc with rfl|hc
   ·exact hbe
   ·rintro rfl
    rcases he with z|z
    ·exact nown c b hc z
    ·rw [hc] at z;cases z;exact hb rfl
structure Un (fs ex:List Addr) (H H':Hp) (h h':Heap):Prop where
 keep:∀ b o,h.get? b=some o->H b=none->b∉fs->b∉ex->h'.get? b=some o
 slot:∀ b o,h.get? b=some o->H b=none->b∈fs->b∉ex->∃ sl,h'.get? b=some { o with slots:=sl }
 free:∀ b o,h.get? b=some o->H b=none->b∉ex->H' b=none
 there:∀ b o,h.get? b=some o->b∉ex->∃ o',h'.get? b=some o'
 tups:∀ b xs,H b=some (.tup xs)->H' b=some (.tup xs)
 frzs:∀ b o u,H b=some (.frz o u)->H' b=some (.frz o u)
 tbls:∀ b ps,H b=some (.tbl ps)->∃ more,H' b=some (.tbl (ps++more))
theorem Un.any (u:Un fs ex H H1 h h1) (q:h.get? b=some ob) (n:H b=none) (hx:b∉ex):∃ sl,h1.get? b=some { ob with slots:=sl }:=by
 by_cases hb:b∈fs
 ·exact u.slot b ob q n hb hx
 ·exact ⟨ob.slots,u.keep b ob q n hb hx⟩
theorem Un.kept (k:∀ b u,h.get? b=some u->h'.get? b=some u):Un fs ex H H h h':=
 ⟨fun b ob q _ _ _=>k b ob q,fun b ob q _ _ _=>⟨ob.slots,k b ob q⟩,fun _ _ _ n _=>n,fun b ob q _=>⟨ob,k b ob q⟩,fun _ _ q=>q,fun _ _ _ q=>q,fun _ ps q=>⟨#[],by rw [q];simp⟩⟩
theorem Un.refl:Un fs ex H H h h:=Un.kept fun _ _ q=>q
theorem Un.laid {H:Hp} {h h':Heap} (k:∀ b u,h.get? b=some u->h'.get? b=some u) (hp:h.objs.size≤a) (hn:H a=none):Un fs ex H (upd H a o) h h' where
 keep:=fun b u q _ _ _=>k b u q
 slot:=fun b u q _ _ _=>⟨u.slots,k b u q⟩
 free:=fun b u q n _=>by rw [aH (Nat.ne_of_lt (Nat.lt_of_lt_of_le (Heap.lt_size q) hp))];exact n
 there:=fun b u q _=>⟨u,k b u q⟩
 tups:=fun b xs q=>by rw [aH (aB q hn)];exact q
 frzs:=fun b u xs q=>by rw [aH (aB q hn)];exact q
 tbls:=fun b ps q=>⟨#[],by rw [aH (aB q hn),q];simp⟩
theorem Un.write (mu:Om (H x)) (he:e=x∨H e=some (.own x)) (k:∀ b u,b≠e->h.get? b=some u->h'.get? b=some u) (heo:∃ u,h'.get? e=some u):Un fs ex H (upd H x o) h h':=by
 have hx:∀ b,H b=none->b≠x:=fun b n z=>by subst z;rw [n] at mu;exact mu
 have hb:∀ b,H b=none->b≠e:=fun b n z=>by
  subst z
  rcases he with r|r
  ·exact hx b n r
  ·rw [n] at r;cases r
 have hm:∀ b u,H b=some u->¬ Om (some u)->b≠x:=fun b u q nm z=>by subst z;rw [q] at mu;exact nm mu
 refine ⟨fun b u q n _ _=>k b u (hb b n) q,fun b u q n _ _=>⟨u.slots,k b u (hb b n) q⟩,fun b u q n _=>by rw [aH (hx b n)];exact n,fun b u q _=>?_,
  fun b xs q=>by rw [aH (hm b _ q fun z=>z)];exact q,fun b u xs q=>by rw [aH (hm b _ q fun z=>z)];exact q,fun b ps q=>⟨#[],by rw [aH (hm b _ q fun z=>z),q];simp⟩⟩
 by_cases hbe:b=e
 ·subst hbe;exact heo
 ·exact ⟨u,k b u hbe q⟩
def Uq (h:Heap) (H:Hp):List Addr:=(List.range h.objs.size).filter fun a=>(H a).isSome
def qH (h:Heap) (H:Hp):Heap:=PySem.W.hideAll h (Uq h H)
theorem wA (h:Heap) (H:Hp):(qH h H).objs.size=h.objs.size:=PySem.W.hideAll_size _ _
theorem zA (e:h.get? b=some o) (n:H b=none):(qH h H).get? b=some o:=
 PySem.W.hideAll_get _ e fun hm=>by
  have q:(H b).isSome=true:=(List.mem_filter.mp hm).2
  rw [n] at q;simp at q
theorem Dl (e:(qH h H).get? b=some o):h.get? b=some o/\H b=none:=by
 have e':h.get? b=some o:=PySem.W.of_hideAll (Uq h H) e
 refine ⟨e',?_⟩
 cases q:H b with
 |none=>rfl
 | some x=>
   have hm:b∈Uq h H:=List.mem_filter.mpr ⟨List.mem_range.mpr (Heap.lt_size e'),by simp [q]⟩
   have z:(qH h H).get? b=none:=PySem.W.hideAll_none (Uq h H) hm
   rw [z] at e;cases e
structure Mod (K:PySem.W.Frag) (mg:Str->Option Value) (base:Heap):Prop where
 kin:K.In base
 glob:base.Ns mainGlobals mg
 blt:∃ mb,base.Ns builtinsNs mb/\∀ x:Str,x ≠ "__name__"->mb x=bootBuiltins x
 nolimit:base.NoLimit
structure Cx where
 prog:Program
 w:World
 K:PySem.W.Frag
 mg:Str->Option Value
 base:Heap
 A:Around
 N:List Str
 s₀:Shared
 H₀:Hp
 env:Env
 outer:List Env
 stack:List Env
 ex:List Addr
 fn:Str->Bool
 calm:Bool
 pn:List (Addr×Obj)
 xe:Value->Shared->Prop
def frs (l:List Env):List Addr:=l.filterMap (·.frame)
abbrev Cx.fs (X:Cx):List Addr:=frs X.outer
def Rq (sc:Scope) (x:Str):Prop:=sc.names.lookup x=some .local∨sc.names.lookup x=some .cell∨sc.names.lookup x=some .free
def Loc (sc:Scope) (x:Str):Prop:=sc.names.lookup x=some .local∨sc.names.lookup x=some .cell
def Look (env:Env) (h:Heap) (m:Str->Option Value) (x:Str) (u:Value):Prop:=
 (env.kindOf x=some .local/\m x=some u)∨((env.kindOf x=some .cell∨env.kindOf x=some .free)/\∃ c,env.cells.lookup x=some c/\h.IsCell c (some u))
structure Cx.Ok (X:Cx):Prop where
 mod:Mod X.K X.mg X.base
 kind:X.env.scope.kind=.function
 glob:X.env.globals=mainGlobals
 blt:X.env.builtins=builtinsNs
 above:X.s₀.heap.objs.size≤X.env.locals
 inj:∀ x y c,X.env.cells.lookup x=some c->X.env.cells.lookup y=some c->x=y
 has:∀ x,(X.env.kindOf x=some .cell∨X.env.kindOf x=some .free)->∃ c,X.env.cells.lookup x=some c
 cab:∀ x c,X.fn x=true->X.env.cells.lookup x=some c->X.s₀.heap.objs.size≤c
 hd:X.calm=true->X.A.handled=none
 frames:X.A.frames=some X.stack
 stk:X.stack=X.outer∨(X.stack=X.env::X.outer/\X.env.frame=some X.env.locals)
 exf:∀ b∈X.ex,b≠X.env.locals/\∀ x c,X.env.cells.lookup x=some c->c≠b
 bs:∀ b o,X.base.get? b=some o->X.s₀.heap.get? b=some o/\X.H₀ b=none
 bsz:X.base.objs.size≤X.s₀.heap.objs.size
 noex:∀ b o,X.base.get? b=some o->b∉X.ex
 exfs:∀ b∈X.ex,b∉X.fs
 funs:X.s₀.heap.FunFrames X.base X.outer
 frf:∀ b∈X.fs,X.H₀ b=none
structure Inv (X:Cx) (Z:List (Addr×Obj)) (σ:List (Option V)) (H:Hp) (s:Shared):Prop where
 ok:X.Ok
 os:s.os=X.s₀.os
 bare:AllBare s.gens
 base:Un X.fs X.ex X.H₀ H X.s₀.heap s.heap
 loc:∃ m,s.heap.Ns X.env.locals m/\∀ (i:Nat) (x:Str) (v:V),X.N[i]?=some x->σ[i]?=some (some v)->Rq X.env.scope x->∃ u,RelV v u/\Look X.env s.heap m x u
 cell:∀ x c,X.env.cells.lookup x=some c->∃ v,s.heap.IsCell c v
 free:H X.env.locals=none
 freeC:∀ x c,X.env.cells.lookup x=some c->H c=none
 pin:∀ p∈X.pn++Z,s.heap.get? p.1=some p.2/\H p.1=none/\p.1≠X.env.locals/\p.1∉X.fs/\∀ v,p.2.data≠.cell v
 hok:jK X.prog X.w H s.heap
 len:σ.length=X.N.length
section
variable {X:Cx} {Z:List (Addr×Obj)} {σ:List (Option V)} {H H':Hp} {s:Shared} {h':Heap}
theorem Cx.Ok.nofr (ok:X.Ok) (e:X.base.get? b=some o):b∉X.fs:=fun hb=>by
 have:=(ok.funs.mem hb).1
 rw [e] at this;cases this
theorem Inv.bs (I:Inv X Z σ H s):∀ b o,X.base.get? b=some o->s.heap.get? b=some o/\H b=none:=fun b o e=>
 ⟨I.base.keep b o (I.ok.bs b o e).1 (I.ok.bs b o e).2 (I.ok.nofr e) (I.ok.noex b o e),I.base.free b o (I.ok.bs b o e).1 (I.ok.bs b o e).2 (I.ok.noex b o e)⟩
theorem Inv.bk (I:Inv X Z σ H s):∀ b o,X.base.get? b=some o->s.heap.get? b=some o:=fun b o e=>(I.bs b o e).1
theorem Inv.mod (I:Inv X Z σ H s):Mod X.K X.mg X.base:=I.ok.mod
theorem Inv.kIn (I:Inv X Z σ H s):X.K.In s.heap:=I.ok.mod.kin.keeps I.bk
theorem Inv.lt (I:Inv X Z σ H s):X.env.locals<s.heap.objs.size:=let ⟨_,hn,_⟩:=I.loc;hn.lt
theorem Inv.sz (I:Inv X Z σ H s):X.s₀.heap.objs.size≤s.heap.objs.size:=Nat.le_trans I.ok.above (Nat.le_of_lt I.lt)
theorem Inv.nofs (I:Inv X Z σ H s) (h:s.heap.objs.size≤a):a∉X.fs:=fun hb=>by
 obtain ⟨_,o,ho,_⟩:=I.ok.funs.mem hb
 exact absurd (Nat.lt_of_lt_of_le (Heap.lt_size ho) (Nat.le_trans I.sz h)) (Nat.lt_irrefl _)
theorem Inv.cne (I:Inv X Z σ H s):∀ x c,X.env.cells.lookup x=some c->c≠X.env.locals:=fun x c e z=>by
 obtain ⟨v,o,ho,hd⟩:=I.cell x c e
 obtain ⟨m,⟨o',es,ep,ho',hd',_⟩,_⟩:=I.loc
 rw [z,ho'] at ho;cases ho;rw [hd'] at hd;cases hd
theorem Inv.funs (I:Inv X Z σ H s):s.heap.FunFrames X.base X.outer:=by
 have all:∀ (l:List Env),(∀ b∈frs l,b∈X.fs)->X.s₀.heap.FunFrames X.base l->s.heap.FunFrames X.base l:=by
  intro l
  induction l with
  |nil=>intro _ _;trivial
  | cons env r ih=>
    intro hs hl
    obtain ⟨hk,⟨L,o,hf,hn,ho,hd⟩,hr⟩:=hl
    have hL:L∈X.fs:=hs L (by unfold frs;rw [List.filterMap_cons,hf];exact List.mem_cons_self)
    obtain ⟨sl,e⟩:=I.base.slot L o ho (I.ok.frf L hL) hL fun z=>I.ok.exfs L z hL
    exact ⟨hk,⟨L,_,hf,hn,e,hd⟩,ih (fun b hb=>hs b (by unfold frs;rw [List.filterMap_cons,hf];exact List.mem_cons_of_mem _ hb)) hr⟩
 exact all X.outer (fun _ hb=>hb) I.ok.funs
theorem Inv.stack (I:Inv X Z σ H s):s.heap.FunFrames X.base X.stack:=by
 rcases I.ok.stk with e|⟨e,hf⟩
 ·rw [e];exact I.funs
 ·rw [e]
  obtain ⟨m,hn,_⟩:=I.loc
  refine .cons (by rw [I.ok.kind];decide) hf hn ?_ I.funs
  exact Heap.get?_none_of_le (Nat.le_trans I.ok.bsz I.ok.above)
theorem Inv.stkSub (I:Inv X Z σ H s):∀ b∈frs X.stack,b∈X.env.locals::X.fs:=fun b hb=>by
 rcases I.ok.stk with e|⟨e,hf⟩
 ·rw [e] at hb;exact List.mem_cons_of_mem _ hb
 ·rw [e] at hb
  unfold frs at hb
  rw [List.filterMap_cons,hf] at hb
  exact hb
theorem Inv.stkFree (I:Inv X Z σ H s):∀ b∈frs X.stack,H b=none:=fun b hb=>by
 rcases List.mem_cons.mp (I.stkSub b hb) with e|hb
 ·rw [e];exact I.free
 ·obtain ⟨_,o,ho,_⟩:=I.ok.funs.mem hb
  exact I.base.free b o ho (I.ok.frf b hb) fun z=>I.ok.exfs b z hb
theorem Inv.step {g':Array GenState} {t':Nat} {d':Drawn} {ch:List Addr} (I:Inv X Z σ H s)
 (hch:∀ b∈ch,(b∈X.ex∨X.s₀.heap.objs.size≤b)/\b≠X.env.locals/\(∀ x c,X.env.cells.lookup x=some c->c≠b)/\∀ p∈X.pn++Z,p.1≠b)
 (keep:∀ b o,b≠X.env.locals->b∉X.fs->b∉ch->s.heap.get? b=some o->H b=none->h'.get? b=some o)
 (slot:∀ b o,b≠X.env.locals->b∈X.fs->b∉ch->s.heap.get? b=some o->H b=none->∃ sl,h'.get? b=some { o with slots:=sl }) (free:∀ b o,b∉ch->s.heap.get? b=some o->H b=none->H' b=none)
 (there:∀ b o,b∉ch->s.heap.get? b=some o->∃ o',h'.get? b=some o')
 (tups:∀ b xs,H b=some (.tup xs)->H' b=some (.tup xs)) (frzs:∀ b o u,H b=some (.frz o u)->H' b=some (.frz o u)) (tbls:∀ b ps,H b=some (.tbl ps)->∃ more,H' b=some (.tbl (ps++more)))
 (ns:∀ m,s.heap.Ns X.env.locals m->h'.Ns X.env.locals m) (hok:jK X.prog X.w H' h') (hg:AllBare g') :
 Inv X Z σ H' { s with heap:=h',gens:=g',drawn:=d',toks:=t' }:=by
 have neL:∀ b o,X.s₀.heap.get? b=some o->b≠X.env.locals:=fun b o e=>Nat.ne_of_lt (Nat.lt_of_lt_of_le (Heap.lt_size e) I.ok.above)
 have neC:∀ b o,X.s₀.heap.get? b=some o->b∉X.ex->b∉ch:=fun b o e hx hb=>by
  rcases (hch b hb).1 with z|z
  ·exact hx z
  ·exact absurd (Nat.lt_of_lt_of_le (Heap.lt_size e) z) (Nat.lt_irrefl _)
 have cellK:∀ x c,X.env.cells.lookup x=some c->∀ v,s.heap.IsCell c v->h'.IsCell c v:=fun x c e v ⟨o,ho,hd⟩=>by
  have nch:c∉ch:=fun z=>(hch c z).2.2.1 x c e rfl
  by_cases hc:c∈X.fs
  ·obtain ⟨sl,q⟩:=slot c o (I.cne x c e) hc nch ho (I.freeC x c e)
   exact ⟨_,q,hd⟩
  ·exact ⟨o,keep c o (I.cne x c e) hc nch ho (I.freeC x c e),hd⟩
 refine ⟨I.ok,I.os,hg,⟨fun b o e n hb hx=>?_,fun b o e n hb hx=>?_,fun b o e n hx=>?_,fun b o e hx=>?_,fun b xs e=>tups b xs (I.base.tups b xs e),fun b o xs e=>frzs b o xs (I.base.frzs b o xs e),fun b ps e=>?_⟩,?_,fun x c e=>?_,?_,fun x c e=>?_,fun p hp=>?_,hok,I.len⟩
 ·exact keep b o (neL b o e) hb (neC b o e hx) (I.base.keep b o e n hb hx) (I.base.free b o e n hx)
 ·obtain ⟨sl,e1⟩:=I.base.slot b o e n hb hx
  obtain ⟨sl',e2⟩:=slot b _ (neL b o e) hb (neC b o e hx) e1 (I.base.free b o e n hx)
  exact ⟨sl',e2⟩
 ·obtain ⟨o',e1⟩:=I.base.there b o e hx
  exact free b o' (neC b o e hx) e1 (I.base.free b o e n hx)
 ·obtain ⟨o',e1⟩:=I.base.there b o e hx
  exact there b o' (neC b o e hx) e1
 ·obtain ⟨m1,e1⟩:=I.base.tbls b ps e
  obtain ⟨m2,e2⟩:=tbls b _ e1
  exact ⟨m1++m2,by rw [e2,Array.append_assoc]⟩
 ·obtain ⟨m,hn,hl⟩:=I.loc
  refine ⟨m,ns m hn,fun i x v e1 e2 e3=>?_⟩
  obtain ⟨u,r,l⟩:=hl i x v e1 e2 e3
  refine ⟨u,r,?_⟩
  rcases l with l|⟨k,c,e,z⟩
  ·exact .inl l
  ·exact .inr ⟨k,c,e,cellK x c e _ z⟩
 ·obtain ⟨v,z⟩:=I.cell x c e
  exact ⟨v,cellK x c e v z⟩
 ·obtain ⟨m,⟨o,_,_,ho,_⟩,_⟩:=I.loc
  exact free _ o (fun z=>(hch _ z).2.1 rfl) ho I.free
 ·obtain ⟨v,o,ho,hd⟩:=I.cell x c e
  exact free c o (fun z=>(hch c z).2.2.1 x c e rfl) ho (I.freeC x c e)
 ·obtain ⟨e,n,ne,nf,d⟩:=I.pin p hp
  have nch:p.1∉ch:=fun z=>(hch p.1 z).2.2.2 p hp rfl
  exact ⟨keep p.1 p.2 ne nf nch e n,free p.1 p.2 nch e n,ne,nf,d⟩
theorem Inv.un {t':Nat} (I:Inv X Z σ H s) (u:Un X.fs [] H H' s.heap h') (hok:jK X.prog X.w H' h'):Inv X Z σ H' { s with heap:=h',toks:=t' }:=by
 obtain ⟨m,⟨o,es,ep,ho,r⟩,_⟩:=id I.loc
 obtain ⟨sl,hL⟩:=u.any ho I.free (by simp)
 exact I.step (g':=s.gens) (d':=s.drawn) (ch:=[]) (fun _ z=>nomatch z) (fun b o _ hb _ e n=>u.keep b o e n hb (by simp)) (fun b o _ hb _ e n=>u.slot b o e n hb (by simp)) (fun b o _ e n=>u.free b o e n (by simp)) (fun b o _ e=>u.there b o e (by simp)) u.tups u.frzs u.tbls (fun m' hm=>by
  obtain ⟨o',es',ep',ho',r'⟩:=hm
  rw [ho] at ho';cases ho'
  exact ⟨_,es',ep',hL,r'⟩) hok I.bare
theorem Inv.call {g':Array GenState} {t':Nat} {d':Drawn} {ch:List Addr} (I:Inv X Z σ H s) (u:Un (frs X.stack) ch H H' s.heap h') (hok:jK X.prog X.w H' h') (hg:AllBare g')
 (hch:∀ b∈ch,(b∈X.ex∨X.s₀.heap.objs.size≤b)/\b≠X.env.locals/\(∀ x c,X.env.cells.lookup x=some c->c≠b)/\∀ p∈X.pn++Z,p.1≠b) :
 Inv X Z σ H' { s with heap:=h',gens:=g',drawn:=d',toks:=t' }:=by
 obtain ⟨m,⟨o,es,ep,ho,r⟩,_⟩:=id I.loc
 obtain ⟨sl,hL⟩:=u.any ho I.free fun z=>(hch _ z).2.1 rfl
 exact I.step (ch:=ch) hch (fun b o hL hb hc e n=>u.keep b o e n (fun z=>(List.mem_cons.mp (I.stkSub b z)).elim hL hb) hc) (fun b o _ _ hc e n=>u.any e n hc) (fun b o hc e n=>u.free b o e n hc) (fun b o hc e=>u.there b o e hc) u.tups u.frzs u.tbls (fun m' hm=>by
  obtain ⟨o',es',ep',ho',r'⟩:=hm
  rw [ho] at ho';cases ho'
  exact ⟨_,es',ep',hL,r'⟩) hok hg
theorem Inv.turned {t':Nat} {it:Addr} (I:Inv X Z σ H s) (k:∀ b o,b≠it->s.heap.get? b=some o->h'.get? b=some o) (hn:H it=none) (hL:it≠X.env.locals)
 (h1:it∈X.ex∨X.s₀.heap.objs.size≤it) (h2:∀ x c,X.env.cells.lookup x=some c->c≠it) (h3:∀ p∈X.pn++Z,p.1≠it):Inv X Z σ H { s with heap:=h',toks:=t' }:=by
 have nit:∀ b u,H b=some u->b≠it:=fun b u e z=>by rw [z,hn] at e;cases e
 refine I.step (g':=s.gens) (d':=s.drawn) (ch:=[it]) (fun b hb=>?_) (fun b o _ _ hc e _=>k b o (fun z=>hc (by simp [z])) e) (fun b o _ _ hc e _=>⟨o.slots,k b o (fun z=>hc (by simp [z])) e⟩) (fun _ _ _ _ n=>n)
  (fun b o hc e=>⟨o,k b o (fun z=>hc (by simp [z])) e⟩) (fun _ _ e=>e) (fun _ _ _ e=>e) (fun b ps e=>⟨#[],by rw [e];simp⟩) (fun m hm=>?_) (fun b u e=>?_) I.bare
 ·have e:b=it:=by simpa using hb
  subst e
  exact ⟨h1,hL,h2,h3⟩
 ·obtain ⟨o,es,ep,ho,r⟩:=hm
  exact ⟨o,es,ep,k _ o (Ne.symm hL) ho,r⟩
 ·refine (I.hok b u e).stay (fun c v hc q=>k c v ?_ q) (fun _ q=>q) fun _ _ q=>q
  rcases hc with z|z
  ·rw [z];exact nit b u e
  ·exact nit c _ z
theorem Inv.tok (I:Inv X Z σ H s) (t:Nat):Inv X Z σ H { s with toks:=t }:=I.un (h':=s.heap) (t':=t) Un.refl I.hok
theorem Inv.kept (I:Inv X Z σ H s) (k:∀ b u,s.heap.get? b=some u->h'.get? b=some u):Inv X Z σ H { s with heap:=h',toks:=t' }:=I.un (Un.kept k) (I.hok.kept k)
theorem Inv.laid (I:Inv X Z σ H s) (k:∀ b u,s.heap.get? b=some u->h'.get? b=some u) (hp:s.heap.objs.size≤a) (new:cX X.prog X.w (upd H a o) h' a o) :
 Inv X Z σ (upd H a o) { s with heap:=h',toks:=t' }:=I.un (Un.laid k hp (I.hok.fresh hp)) (I.hok.laid k hp new)
theorem Inv.write (I:Inv X Z σ H s) (mu:Om (H x)) (he:e=x∨H e=some (.own x)) (k:∀ b u,b≠e->s.heap.get? b=some u->h'.get? b=some u) (heo:∃ u,h'.get? e=some u)
 (new:cX X.prog X.w (upd H x o) h' x o):Inv X Z σ (upd H x o) { s with heap:=h',toks:=t' }:=I.un (Un.write mu he k heo) (I.hok.write mu he k heo new)
theorem Inv.pins_of (I:Inv X Z σ H s) (h:∀ p∈pins',s.heap.get? p.1=some p.2/\H p.1=none/\p.1≠X.env.locals/\p.1∉X.fs/\∀ v,p.2.data≠.cell v):Inv X pins' σ H s:=
 ⟨I.ok,I.os,I.bare,I.base,I.loc,I.cell,I.free,I.freeC,fun p hp=>(List.mem_append.mp hp).elim (fun z=>I.pin p (List.mem_append_left _ z)) (h p),I.hok,I.len⟩
theorem mO {N:List Str} (hN:N.Nodup) {i j:Nat} {x:Str} (a:N[i]?=some x) (b:N[j]?=some x):i=j:=by
 obtain ⟨h1,e1⟩:=List.getElem?_eq_some_iff.mp a
 obtain ⟨h2,e2⟩:=List.getElem?_eq_some_iff.mp b
 exact (List.getElem_inj hN).mp (e1.trans e2.symm)
theorem lB {M:Model} {A:Around} {E:Value->Shared->Prop} {i:Nat} {x:Str} {v:V} {u:Value} {Q:Unit->Shared->Prop} (I:Inv X Z σ H s) (hN:X.N.Nodup) (hi:X.N[i]?=some x) (hx:Loc X.env.scope x) (r:RelV v u)
 (h:∀ s',Inv X Z (σ.set i (some v)) H s'->(∃ a,Heap.SameBut a s.heap s'.heap/\(a=X.env.locals∨X.env.cells.lookup x=some a))->Q () s') (hf:X.fn x=true∨X.env.scope.names.lookup x=some .local:=by first|exact .inl rfl|exact .inr rfl|assumption):wpAny M A (storeName X.env x u) Q E s:=by
 obtain ⟨m,hn,hl⟩:=id I.loc
 have hcls:(X.env.scope.kind == .class || (X.env.scope.kind == .module && X.env.locals != X.env.globals))=false:=by rw [I.ok.kind];rfl
 have hiσ:i<σ.length:=by rw [I.len];exact (List.getElem?_eq_some_iff.mp hi).1
 have cne:=I.cne
 have tracked:∀ {a:Addr} {h':Heap},(∃ o,s.heap.get? a=some o/\H a=none)->Heap.SameBut a s.heap h'->jK X.prog X.w H h':=fun {a h'} ha hs b ob e=>by
  obtain ⟨_,_,hfree⟩:=ha
  refine (I.hok b ob e).stay (fun c w' hc q=>(hs.2 c ?_).trans q) (fun _ q=>q) fun _ _ q=>q
  rintro rfl
  rcases hc with rfl|hc
  ·rw [hfree] at e;cases e
  ·rw [hfree] at hc;cases hc
 rcases hx with hk|hk
 ·refine wpAny_storeName_local hk hn (fun h' hn' hs=>?_) hcls
  obtain ⟨oL,_,_,hoL,_⟩:=id hn
  refine h _ ⟨I.ok,I.os,I.bare,⟨fun b o e n hb hx=>?_,fun b o e n hb hx=>?_,I.base.free,fun b o e hx=>?_,I.base.tups,I.base.frzs,I.base.tbls⟩,⟨_,hn',fun j y v' e1 e2 e3=>?_⟩,fun y c e=>?_,I.free,I.freeC,fun p hp=>?_,tracked ⟨oL,hoL,I.free⟩ hs,by simpa using I.len⟩ ⟨_,hs,.inl rfl⟩
  ·exact (hs.2 b (Nat.ne_of_lt (Nat.lt_of_lt_of_le (Heap.lt_size e) I.ok.above))).trans (I.base.keep b o e n hb hx)
  ·obtain ⟨sl,e1⟩:=I.base.slot b o e n hb hx
   exact ⟨sl,(hs.2 b (Nat.ne_of_lt (Nat.lt_of_lt_of_le (Heap.lt_size e) I.ok.above))).trans e1⟩
  ·obtain ⟨o',e1⟩:=I.base.there b o e hx
   exact ⟨o',(hs.2 b (Nat.ne_of_lt (Nat.lt_of_lt_of_le (Heap.lt_size e) I.ok.above))).trans e1⟩
  ·by_cases hj:j=i
   ·subst hj
    rw [hi] at e1;cases e1
    rw [List.getElem?_set_self hiσ] at e2
    cases e2
    exact ⟨u,r,.inl ⟨hk,by simp⟩⟩
   ·rw [List.getElem?_set_ne (Ne.symm hj)] at e2
    obtain ⟨u',r',q⟩:=hl j y v' e1 e2 e3
    refine ⟨u',r',?_⟩
    rcases q with ⟨k,e⟩|⟨k,c,e,z⟩
    ·refine .inl ⟨k,?_⟩
     have:y≠x:=fun e=>hj (mO hN e1 (e ▸ hi))
     simp [this,e]
    ·exact .inr ⟨k,c,e,z.sameBut hs (cne y c e)⟩
  ·obtain ⟨w',z⟩:=I.cell y c e
   exact ⟨w',z.sameBut hs (cne y c e)⟩
  ·obtain ⟨e,n,ne,nf,d⟩:=I.pin p hp
   exact ⟨(hs.2 p.1 ne).trans e,n,ne,nf,d⟩
 ·have hfn:X.fn x=true:=by
   rcases hf with z|z
   ·exact z
   ·rw [z] at hk;cases hk
  obtain ⟨c,hc⟩:=I.ok.has x (.inl hk)
  obtain ⟨w',z⟩:=I.cell x c hc
  refine wpAny_storeName_cell I.ok.kind hk hc z (fun h' hc' hs=>?_)
  obtain ⟨oc,hoc,hocd⟩:=id z
  refine h { s with heap:=h' } ⟨I.ok,I.os,I.bare,⟨fun b o e n hb hx=>?_,fun b o e n hb hx=>?_,I.base.free,fun b o e hx=>?_,I.base.tups,I.base.frzs,I.base.tbls⟩,⟨m,hn.sameBut hs (Ne.symm (cne x c hc)),fun j y v' e1 e2 e3=>?_⟩,fun y c' e=>?_,I.free,I.freeC,fun p hp=>?_,tracked ⟨oc,hoc,I.freeC x c hc⟩ hs,by simpa using I.len⟩ ⟨c,hs,.inr hc⟩
  ·exact (hs.2 b (Nat.ne_of_lt (Nat.lt_of_lt_of_le (Heap.lt_size e) (I.ok.cab x c hfn hc)))).trans (I.base.keep b o e n hb hx)
  ·obtain ⟨sl,e1⟩:=I.base.slot b o e n hb hx
   exact ⟨sl,(hs.2 b (Nat.ne_of_lt (Nat.lt_of_lt_of_le (Heap.lt_size e) (I.ok.cab x c hfn hc)))).trans e1⟩
  ·obtain ⟨o',e1⟩:=I.base.there b o e hx
   exact ⟨o',(hs.2 b (Nat.ne_of_lt (Nat.lt_of_lt_of_le (Heap.lt_size e) (I.ok.cab x c hfn hc)))).trans e1⟩
  ·by_cases hj:j=i
   ·subst hj
    rw [hi] at e1;cases e1
    rw [List.getElem?_set_self hiσ] at e2
    cases e2
    exact ⟨u,r,.inr ⟨.inl hk,c,hc,hc'⟩⟩
   ·rw [List.getElem?_set_ne (Ne.symm hj)] at e2
    obtain ⟨u',r',q⟩:=hl j y v' e1 e2 e3
    refine ⟨u',r',?_⟩
    rcases q with q|⟨k,c',e,z'⟩
    ·exact .inl q
    ·refine .inr ⟨k,c',e,z'.sameBut hs ?_⟩
     rintro rfl
     exact hj (mO hN e1 (I.ok.inj _ _ _ e hc ▸ hi))
  ·by_cases hcc:c'=c
   ·subst hcc;exact ⟨_,hc'⟩
   ·obtain ⟨w2,z2⟩:=I.cell y c' e
    exact ⟨w2,z2.sameBut hs hcc⟩
  ·obtain ⟨e,n,ne,nf,d⟩:=I.pin p hp
   refine ⟨(hs.2 p.1 ?_).trans e,n,ne,nf,d⟩
   intro q
   rw [q,hoc] at e
   have q':oc=p.2:=Option.some.inj e
   exact d w' (by rw [← q'];exact hocd)
theorem mW (I:Inv X Z σ H s) (hN:X.N.Nodup) (hi:X.N[i]?=some x) (hx:Loc X.env.scope x) (r:RelV v u)
 (h:∀ s',Inv X Z (σ.set i (some v)) H s'->Q () s') (hf:X.fn x=true∨X.env.scope.names.lookup x=some .local:=by first|exact .inl rfl|exact .inr rfl|assumption):wpAny M A (storeName X.env x u) Q E s:=
 lB I hN hi hx r (fun s' I' _=>h s' I') hf
theorem Inv.call' (I:Inv X Z σ H s) (ho:s'.os=s.os) (u:Un (frs X.stack) ch H H' s.heap s'.heap) (hok:jK X.prog X.w H' s'.heap) (hg:AllBare s'.gens)
 (hch:∀ b∈ch,(b∈X.ex∨X.s₀.heap.objs.size≤b)/\b≠X.env.locals/\(∀ x c,X.env.cells.lookup x=some c->c≠b)/\∀ p∈X.pn++Z,p.1≠b):Inv X Z σ H' s':=by
 obtain ⟨h',g',d',t',o'⟩:=s'
 have e:o'=s.os:=ho
 subst e
 exact I.call (g':=g') (t':=t') (d':=d') u hok hg hch
end
abbrev XK:=Value->Option Addr->Hp->Prop
abbrev St:=List (Option V)
abbrev VK:=V->Hp->Prop
abbrev TE:=St->Hp->VK->Prop
abbrev TT:=St->Hp->(Bool->Hp->Prop)->Prop
abbrev TA:=St->Hp->(List V->Hp->Prop)->Prop
structure Ends where
 nx:St->Hp->Prop
 rt:VK
 bk:St->Hp->Prop:=fun _ _=>False
 ct:St->Hp->Prop:=fun _ _=>False
abbrev TS:=Ends->St->Hp->Prop
def EP (X:Cx) (Z:List (Addr×Obj)) (σ:St) (Q:VK) (u:Value) (s':Shared):Prop:=∃ v H',Inv X Z σ H' s'/\RelV v u/\Q v H'
def TP (X:Cx) (Z:List (Addr×Obj)) (σ:St) (Q:Bool->Hp->Prop) (b:Bool) (s':Shared):Prop:=∃ H',Inv X Z σ H' s'/\Q b H'
def AP (X:Cx) (Z:List (Addr×Obj)) (σ:St) (Q:List V->Hp->Prop) (us:List Value) (s':Shared):Prop:=∃ vs H',Inv X Z σ H' s'/\Vals vs us/\Q vs H'
def SP (X:Cx) (Z:List (Addr×Obj)) (D:Ends) (f:Flow) (s':Shared):Prop:=
 match f with
 |.next=>∃ σ' H',Inv X Z σ' H' s'/\D.nx σ' H'
 |.brk=>∃ σ' H',Inv X Z σ' H' s'/\D.bk σ' H'
 |.cont=>∃ σ' H',Inv X Z σ' H' s'/\D.ct σ' H'
 |.ret u=>∃ v σ' H',Inv X Z σ' H' s'/\RelV v u/\D.rt v H'
def PE (X:Cx) (e:Expr) (t:TE):Prop:=
 ∀ (Z:List (Addr×Obj)) (s:Shared) (σ:St) (H:Hp) (Q:VK),Inv X Z σ H s->t σ H Q->wpAny (model X.prog X.w) X.A (eval e X.env) (EP X Z σ Q) X.xe s
def PT (X:Cx) (e:Expr) (t:TT):Prop:=
 ∀ (Z:List (Addr×Obj)) (s:Shared) (σ:St) (H:Hp) (Q:Bool->Hp->Prop),Inv X Z σ H s->t σ H Q->wpAny (model X.prog X.w) X.A (isTrue e X.env (eval e X.env)) (TP X Z σ Q) X.xe s
def PW (X:Cx) (e:Expr) (t:TT):Prop:=
 ∀ (whole:Sem Value) (Z:List (Addr×Obj)) (s:Shared) (σ:St) (H:Hp) (Q:Bool->Hp->Prop),Inv X Z σ H s->t σ H Q->wpAny (model X.prog X.w) X.A (isTrue e X.env whole) (TP X Z σ Q) X.xe s
theorem PW.pt (h:PW X e t):PT X e t:=h _
def PA (X:Cx) (es:List Expr) (t:TA):Prop:=
 ∀ (pos:Pos) (Z:List (Addr×Obj)) (s:Shared) (σ:St) (H:Hp) (Q:List V->Hp->Prop),Inv X Z σ H s->t σ H Q->wpAny (model X.prog X.w) X.A (spliced (backTo pos (starEach es X.env))) (AP X Z σ Q) X.xe s
def PS (X:Cx) (st:Stmt) (t:TS):Prop:=
 ∀ (Z:List (Addr×Obj)) (s:Shared) (σ:St) (H:Hp) (D:Ends),Inv X Z σ H s->t D σ H->wpAny (model X.prog X.w) X.A (exec st X.env) (SP X Z D) X.xe s
def u_ (X:Cx) (st:List Stmt) (t:TS):Prop:=
 ∀ (Z:List (Addr×Obj)) (s:Shared) (σ:St) (H:Hp) (D:Ends),Inv X Z σ H s->t D σ H->wpAny (model X.prog X.w) X.A (execs st X.env) (SP X Z D) X.xe s
theorem cz {α:Type} {t:Sem α} {Q Q':α->Shared->Prop} {M:Model} {A:Around} {E:Value->Shared->Prop} {s:Shared} (h:wpAny M A t Q E s) (hQ:∀ a s,Q a s->Q' a s):wpAny M A t Q' E s:=wpAny_mono h hQ fun _ _ x=>x
section
variable {X:Cx}
theorem bin {a b:Expr} {ta tb:TE} (ha:PE X a ta) (hb:PE X b tb) {Z:List (Addr×Obj)} {s:Shared} {σ:St} {H:Hp} {R:V->V->Hp->Prop} (I:Inv X Z σ H s) (h:ta σ H fun x H1=>tb σ H1 fun y H2=>R x y H2)
 {α:Type} {Q:α->Shared->Prop} {f:Value->Value->Sem α}
 (hf:∀ v u s2 x y H2,Inv X Z σ H2 s2->RelV x v->RelV y u->R x y H2->wpAny (model X.prog X.w) X.A (f v u) Q X.xe s2) :
 wpAny (model X.prog X.w) X.A (eval a X.env) (fun v s₁=>wpAny (model X.prog X.w) X.A (eval b X.env) (fun u s₂=>wpAny (model X.prog X.w) X.A (f v u) Q X.xe s₂) X.xe s₁) X.xe s:=by
 refine cz (ha Z s σ H _ I h) fun v s1 ⟨x,H1,I1,r1,q1⟩=>?_
 refine cz (hb Z s1 σ H1 _ I1 q1) fun u s2 ⟨y,H2,I2,r2,q2⟩=>?_
 exact hf v u s2 x y H2 I2 r1 r2 q2
def rC (i:Nat):TE:=fun σ H Q=>∃ v,σ[i]?=some (some v)/\Q v H
def tC (v:V):TE:=fun _ H Q=>Q v H
theorem GQ (hN:X.N[i]?=some x) (hv:Rq X.env.scope x) (hd:(x == ("__debug__" : Str))=false:=by decide) (hcd:(x == ("__classdict__" : Str))=false:=by decide):PE X (.Name x pos) (rC i):=by
 intro Z s σ H Q I h
 obtain ⟨v,e,h⟩:=h
 obtain ⟨m,hn,hl⟩:=I.loc
 obtain ⟨u,r,l⟩:=hl i x v hN e hv
 have fin:EP X Z σ Q u s:=⟨v,H,I,r,h⟩
 rcases l with ⟨hk,hm⟩|⟨hk,c,hc,hcell⟩
 ·exact wpAny_Name (wpAny_loadName_local I.ok.kind hk hn hm fin) hd
 ·rcases hk with hk|hk
  ·exact wpAny_Name (wpAny_loadName_cell I.ok.kind hk hc hcell fin) hd
  ·exact wpAny_Name (wpAny_loadName_free I.ok.kind hk hc hcell fin hcd) hd
theorem au {i j pos}:PE X (.Constant (.int i) j pos) (tC (.int i)):=fun _ _ _ H _ I h=>wpAny_Constant_int ⟨.int i,H,I.tok _,⟨_,rfl⟩,h⟩
theorem pq {b j pos}:PE X (.Constant (.bool b) j pos) (tC (.bl b)):=fun _ _ _ H _ I h=>Constant_bool ⟨.bl b,H,I,rfl,h⟩
theorem lG {j pos}:PE X (.Constant .none j pos) (tC .non):=fun _ _ _ H _ I h=>Constant_none ⟨.non,H,I,rfl,h⟩
theorem aO {x j pos}:PE X (.Constant (.str x) j pos) (tC (.str x)):=fun _ _ _ H _ I h=>Calls.Constant_str ⟨.str x,H,I.tok _,⟨_,rfl⟩,h⟩
def Gl (X:Cx) (x:Str):Prop:=X.env.kindOf x=some .globalImplicit
theorem q8 (I:Inv X Z σ H s) (hg:Gl X x) (hm:X.mg x=some u) (h:Q u s)
 (hd:(x == ("__debug__" : Str))=false:=by decide):wpAny (model X.prog X.w) X.A (eval (.Name x pos) X.env) Q E s:=
 Calls.Name_function_global I.ok.kind hg (Calls.loadGlobal_global (by rw [I.ok.glob];exact I.mod.glob.keeps I.bk) hm h) hd
theorem eU (I:Inv X Z σ H s) (hg:Gl X x) (hm:X.mg x=none) (hv:bootBuiltins x=some u) (h:Q u s)
 (hn:x ≠ "__name__":=by decide) (hd:(x == ("__debug__" : Str))=false:=by decide):wpAny (model X.prog X.w) X.A (eval (.Name x pos) X.env) Q E s:=by
 obtain ⟨mb,h1,h2⟩:=I.mod.blt
 exact Calls.Name_function_global I.ok.kind hg (Calls.loadGlobal_builtin (by rw [I.ok.glob];exact I.mod.glob.keeps I.bk) hm (by rw [I.ok.blt];exact h1.keeps I.bk) ((h2 x hn).trans hv) h) hd
theorem bj (hg:Gl X x) (hm:X.mg x=some u) (r:RelV v u) (hd:(x == ("__debug__" : Str))=false:=by decide):PE X (.Name x pos) (tC v):=
 fun _ _ _ H _ I h=>q8 I hg hm ⟨v,H,I,r,h⟩ hd
theorem El (hg:Gl X x) (hm:X.mg x=none) (hv:bootBuiltins x=some u) (r:RelV v u) (hn:x ≠ "__name__":=by decide) (hd:(x == ("__debug__" : Str))=false:=by decide):PE X (.Name x pos) (tC v):=
 fun _ _ _ H _ I h=>eU I hg hm hv ⟨v,H,I,r,h⟩ hn hd
def PC (X:Cx) (op:CmpOp) (a b:Expr) (t:TE):Prop:=
 ∀ (Z:List (Addr×Obj)) (s:Shared) (σ:St) (H:Hp) (Q:VK),Inv X Z σ H s->t σ H Q->
   wpAny (model X.prog X.w) X.A (eval a X.env) (fun v s₁=>wpAny (model X.prog X.w) X.A (eval b X.env) (fun u s₂=>wpAny (model X.prog X.w) X.A (compareOp op v u) (EP X Z σ Q) X.xe s₂) X.xe s₁) X.xe s
def tB (t:TE):TT:=fun σ H Q=>t σ H fun x H1=>∃ c,x=.bl c/\Q c H1
theorem W0 {op:CmpOp} {t:TE} (h:PC X op a b t) (h1:behindInMarks op b=false:=by first|exact nobehind _ (by decide) (by decide)|rfl):PT X (.Compare a [op] [b] pos) (tB t):=by
 intro Z s σ H Q I hw
 refine wpAny_isTrue_Compare1 (cz (h Z s σ H _ I hw) fun v s1 h1=>cz h1 fun u s2 h2=>cz h2 fun c s3 ⟨x,H1,I1,r1,q1⟩=>?_) h1
 obtain ⟨d,rfl,q⟩:=q1
 cases r1
 exact wpAny_truthy_bool ⟨H1,I1,q⟩
theorem dO {e:Expr} {t:TE} (h:PE X e t) (he:∀ whole,isTrue e X.env whole=(do let v ← whole;standAt e.pos;holding [v] (truthy v)):=by intro _;rfl):PT X e (tB t):=by
 intro Z s σ H Q I hw
 refine isTrue_plain (cz (h Z s σ H _ I hw) fun v s1 ⟨x,H1,I1,r1,q1⟩=>?_) (he _)
 obtain ⟨d,rfl,q⟩:=q1
 cases r1
 exact wpAny_truthy_bool ⟨H1,I1,q⟩
def Vg (t u:TT):TT:=fun σ H Q=>t σ H fun c H1=>if c=true then u σ H1 Q else Q false H1
def Xi (t u:TT):TT:=fun σ H Q=>t σ H fun c H1=>if c=true then Q true H1 else u σ H1 Q
def Ou (t:TT):TT:=fun σ H Q=>t σ H fun c H1=>Q (!c) H1
theorem jk (ha:PT X a tA):PW X (.BoolOp .And [a] pos) tA:=by
 intro wh Z s σ H Q I h
 refine isTrue_and (cz (ha Z s σ H Q I h) fun c s1 e=>?_)
 cases c with
 |true=>exact isTrue_and_nil e
 |false=>exact e
theorem lK (ha:PT X a tA):PW X (.BoolOp .Or [a] pos) tA:=by
 intro wh Z s σ H Q I h
 refine isTrue_or (cz (ha Z s σ H Q I h) fun c s1 e=>?_)
 cases c with
 |false=>exact isTrue_or_nil e
 |true=>exact e
theorem jR {a b:Expr} {pos:Pos} {tA tB':TT} {rest:List Expr} (ha:PT X a tA) (hb:PW X (.BoolOp .And (b::rest) pos) tB'):PW X (.BoolOp .And (a::b::rest) pos) (Vg tA tB'):=by
 intro wh Z s σ H Q I h
 refine isTrue_and (cz (ha Z s σ H _ I h) fun c s1 ⟨H1,I1,q1⟩=>?_)
 cases c with
 |true=>exact hb wh Z s1 σ H1 Q I1 q1
 |false=>exact ⟨H1,I1,q1⟩
theorem nD {a b:Expr} {pos:Pos} {tA tB':TT} {rest:List Expr} (ha:PT X a tA) (hb:PW X (.BoolOp .Or (b::rest) pos) tB'):PW X (.BoolOp .Or (a::b::rest) pos) (Xi tA tB'):=by
 intro wh Z s σ H Q I h
 refine isTrue_or (cz (ha Z s σ H _ I h) fun c s1 ⟨H1,I1,q1⟩=>?_)
 cases c with
 |true=>exact ⟨H1,I1,q1⟩
 |false=>exact hb wh Z s1 σ H1 Q I1 q1
theorem gA (ha:PT X a tA):PT X (.UnaryOp .Not a pos) (Ou tA):=by
 intro Z s σ H Q I h
 exact isTrue_not (ha Z s σ H (fun c H1=>Q (!c) H1) I h)
def O3 (ta tb:TE):TE:=fun σ H Q=>ta σ H fun x H1=>∃ c,x=.bl c/\if c=true then tb σ H1 Q else Q (.bl false) H1
def Vy (ta tb:TE):TE:=fun σ H Q=>ta σ H fun x H1=>∃ c,x=.bl c/\if c=true then Q (.bl true) H1 else tb σ H1 Q
def Mh (ta:TE):TE:=fun σ H Q=>ta σ H fun x H1=>∃ c,x=.bl c/\Q (.bl (!c)) H1
theorem eV {op} (h:PE X a t):PE X (.BoolOp op [a] pos) t:=fun Z s σ H Q I hw=>BoolOp_one (h Z s σ H Q I hw)
theorem cY {a b:Expr} {ta tb:TE} {pos:Pos} {rest:List Expr} (ha:PE X a ta) (hb:PE X (.BoolOp .And (b::rest) pos) tb):PE X (.BoolOp .And (a::b::rest) pos) (O3 ta tb):=by
 intro Z s σ H Q I h
 refine BoolOp_and (cz (ha Z s σ H _ I h) fun v s1 ⟨x,H1,I1,r1,q1⟩=>?_)
 obtain ⟨c,rfl,q1⟩:=q1
 cases r1
 refine wpAny_truthy_bool ?_
 cases c with
 |true=>exact hb Z s1 σ H1 Q I1 q1
 |false=>exact ⟨.bl false,H1,I1,rfl,q1⟩
theorem Gb {a b:Expr} {ta tb:TE} {pos:Pos} {rest:List Expr} (ha:PE X a ta) (hb:PE X (.BoolOp .Or (b::rest) pos) tb):PE X (.BoolOp .Or (a::b::rest) pos) (Vy ta tb):=by
 intro Z s σ H Q I h
 refine BoolOp_or (cz (ha Z s σ H _ I h) fun v s1 ⟨x,H1,I1,r1,q1⟩=>?_)
 obtain ⟨c,rfl,q1⟩:=q1
 cases r1
 refine wpAny_truthy_bool ?_
 cases c with
 |false=>exact hb Z s1 σ H1 Q I1 q1
 |true=>exact ⟨.bl true,H1,I1,rfl,q1⟩
theorem zf (ha:PE X a ta):PE X (.UnaryOp .Not a pos) (Mh ta):=by
 intro Z s σ H Q I h
 refine UnaryOp_ (cz (ha Z s σ H _ I h) fun v s1 ⟨x,H1,I1,r1,q1⟩=>?_)
 obtain ⟨c,rfl,q1⟩:=q1
 cases r1
 exact not_of (wpAny_truthy_bool ⟨.bl (!c),H1,I1,rfl,q1⟩)
def Xm (t:TT) (ta tb:TE):TE:=fun σ H Q=>t σ H fun c H1=>if c=true then ta σ H1 Q else tb σ H1 Q
theorem fJ {c:Expr} (hc:PT X c tA) (ha:PE X a ta) (hb:PE X b tb):PE X (.IfExp c a b pos) (Xm tA ta tb):=by
 intro Z s σ H Q I h
 refine wpAny_IfExp (cz (hc Z s σ H _ I h) fun d s1 ⟨H1,I1,q1⟩=>?_)
 cases d with
 |true=>exact ha Z s1 σ H1 Q I1 q1
 |false=>exact hb Z s1 σ H1 Q I1 q1
end
def bD (K:PySem.W.Frag) (H:Hp) (a:Addr) (xs:List V):Prop:=
 Rd H a (.lst xs)∨
  ∃ (o:Obj) (its:Array Value) (n:Nat),K.lookup a=some o/\o.cls=.type "list"/\o.dict=none/\o.data=.seq its n/\its.size≤sizeLine/\Vals xs its.toList
def bI (K:PySem.W.Frag) (H:Hp) (a:Addr) (xs:List V):Prop:=
 Rd H a (.tup xs)∨
  ∃ (o:Obj) (its:Array Value) (n:Nat),K.lookup a=some o/\o.cls=.type "tuple"/\o.data=.seq its n/\its.size≤sizeLine/\Vals xs its.toList
def We:Value->Option V
 |.none=>some .non
 |.bool b=>some (.bl b)
 |.int i _=>some (.int i)
 |.str x _=>some (.str x)
 |.bytes b _=>some (.byt b)
 |.float b _=>some (.flt b)
 |.ref a=>some (.ref a)
 |.type n=>some (.ty n)
 |_=>none
theorem RelV.abs (r:RelV x u):We u=some x:=by
 cases x with
 |non=>cases r;rfl
 |bl _=>cases r;rfl
 |int _=>obtain ⟨t,rfl⟩:=r;rfl
 |str _=>obtain ⟨t,rfl⟩:=r;rfl
 |byt _=>obtain ⟨t,rfl⟩:=r;rfl
 |flt _=>obtain ⟨t,rfl⟩:=r;rfl
 |ref _=>cases r;rfl
 |ty _=>cases r;rfl
theorem RelV.inj (r:RelV x u) (q:RelV y u):x=y:=Option.some.inj (r.abs.symm.trans q.abs)
theorem Vals.inj:∀ {xs ys:List V} {us:List Value},Vals xs us->Vals ys us->xs=ys
 |_,_,_,.nil,.nil=>rfl
 |_,_,_,.cons r t,.cons r' t'=>by rw [r.inj r',Vals.inj t t']
theorem bD.of {H:Hp} {K:PySem.W.Frag} (h:H a=some (.lst xs)):bD K H a xs:=.inl (.inl h)
theorem bI.of {H:Hp} {K:PySem.W.Frag} (h:H a=some (.tup xs)):bI K H a xs:=.inl (.inl h)
theorem Inv.list (I:Inv X Z σ H s) (h:bD X.K H a xs):∃ its:List Value,Vals xs its/\PlainL s.heap a its.toArray/\xs.length≤sizeLine:=by
 rcases h with h|⟨o,its,n,hk,hc,hd,hs,hz,r⟩
 ·obtain ⟨z,its,n,r,e⟩:=h.ok I.hok
  exact ⟨its,r,⟨_,n,e,rfl,rfl,rfl⟩,z⟩
 ·refine ⟨its.toList,r,⟨o,n,I.kIn a o hk,hc,hd,by simpa using hs⟩,?_⟩
  have e:=r.length
  simp only [Array.length_toList] at e
  omega
theorem Inv.tuple (I:Inv X Z σ H s) (h:bI X.K H a xs):∃ its:List Value,Vals xs its/\IsTup s.heap a its.toArray/\xs.length≤sizeLine:=by
 rcases h with h|⟨o,its,n,hk,hc,hs,hz,r⟩
 ·obtain ⟨z,its,r,p⟩:=h.ok I.hok
  exact ⟨its,r,p,z⟩
 ·refine ⟨its.toList,r,⟨o,I.kIn a o hk,hc,n,by simpa using hs⟩,?_⟩
  have e:=r.length
  simp only [Array.length_toList] at e
  omega
theorem Inv.list_inj (I:Inv X Z σ H s) (h:bD X.K H a xs) (h':bD X.K H a ys):xs=ys:=by
 obtain ⟨its,r,⟨o,n,e,_,_,d⟩,_⟩:=I.list h
 obtain ⟨its',r',⟨o',n',e',_,_,d'⟩,_⟩:=I.list h'
 rw [e] at e';cases e'
 rw [d] at d'
 injection d' with d1 _
 have:its=its':=by simpa using congrArg Array.toList d1
 subst this
 exact r.inj r'
theorem Inv.tuple_inj (I:Inv X Z σ H s) (h:bI X.K H a xs) (h':bI X.K H a ys):xs=ys:=by
 obtain ⟨its,r,⟨o,e,_,n,d⟩,_⟩:=I.tuple h
 obtain ⟨its',r',⟨o',e',_,n',d'⟩,_⟩:=I.tuple h'
 rw [e] at e';cases e'
 rw [d] at d'
 injection d' with d1 _
 have:its=its':=by simpa using congrArg Array.toList d1
 subst this
 exact r.inj r'
abbrev Cx.wish (X:Cx) (E:Value->Shared->Prop):Cx:={ X with xe:=E }
abbrev Cx.nox (X:Cx):Cx:=X.wish fun _ _=>False
theorem Cx.Ok.wish {X:Cx} (ok:X.Ok) (E:Value->Shared->Prop):(X.wish E).Ok:=
 ⟨ok.mod,ok.kind,ok.glob,ok.blt,ok.above,ok.inj,ok.has,ok.cab,ok.hd,ok.frames,ok.stk,ok.exf,ok.bs,ok.bsz,ok.noex,ok.exfs,ok.funs,ok.frf⟩
theorem Cx.Ok.unwish {X:Cx} (ok:(X.wish E).Ok):X.Ok:=
 ⟨ok.mod,ok.kind,ok.glob,ok.blt,ok.above,ok.inj,ok.has,ok.cab,ok.hd,ok.frames,ok.stk,ok.exf,ok.bs,ok.bsz,ok.noex,ok.exfs,ok.funs,ok.frf⟩
theorem Inv.wish {X:Cx} (I:Inv X Z σ H s) (E:Value->Shared->Prop):Inv (X.wish E) Z σ H s:=⟨I.ok.wish E,I.os,I.bare,I.base,I.loc,I.cell,I.free,I.freeC,I.pin,I.hok,I.len⟩
theorem Inv.unwish {X:Cx} (I:Inv (X.wish E) Z σ H s):Inv X Z σ H s:=⟨I.ok.unwish,I.os,I.bare,I.base,I.loc,I.cell,I.free,I.freeC,I.pin,I.hok,I.len⟩
theorem SP.unwish (h:SP (X.wish E) Z D f s'):SP X Z D f s':=by
 cases f with
 |next=>obtain ⟨σ',H',I,q⟩:=h;exact ⟨σ',H',I.unwish,q⟩
 |brk=>obtain ⟨σ',H',I,q⟩:=h;exact ⟨σ',H',I.unwish,q⟩
 |cont=>obtain ⟨σ',H',I,q⟩:=h;exact ⟨σ',H',I.unwish,q⟩
 |ret u=>obtain ⟨v,σ',H',I,r,q⟩:=h;exact ⟨v,σ',H',I.unwish,r,q⟩
theorem u_.nox {X:Cx} {st:List Stmt} {t:TS} (h:u_ X.nox st t):u_ X st t:=fun Z s σ H D I hw=>
 wpAny_mono (h Z s σ H D (I.wish _) hw) (fun _ _ q=>q.unwish) fun _ _ z=>False.elim z
def RB:TS:=fun D σ H=>D.nx σ H
def Oa (t u:TS):TS:=fun D σ H=>t { D with nx:=u D } σ H
theorem aK:u_ X [] RB:=fun _ _ σ H _ I h=>wpAny_execs_nil ⟨σ,H,I,h⟩
theorem ak {X:Cx} {st:Stmt} {rest:List Stmt} {t u:TS} (h1:PS X st t) (h2:u_ X rest u):u_ X (st::rest) (Oa t u):=by
 intro Z s σ H D I h
 refine wpAny_execs_cons (cz (h1 Z s σ H { D with nx:=u D } I h) fun f s1 q=>?_)
 cases f with
 | next=>
   obtain ⟨σ',H',I',q⟩:=q
   exact h2 Z s1 σ' H' D I' q
 |ret v=>exact q
 |brk=>exact q
 |cont=>exact q
theorem aq {X:Cx} {st:Stmt} {t:TS} (h1:PS X st t):u_ X [st] t:=by
 intro Z s σ H D I h
 refine wpAny_execs_cons (cz (h1 Z s σ H D I h) fun f s1 q=>?_)
 cases f with
 |next=>exact wpAny_execs_nil q
 |ret v=>exact q
 |brk=>exact q
 |cont=>exact q
theorem Inv.quiet (I:Inv X Z σ H s):interactive X.env=false:=by simp [interactive,I.ok.kind]
def P0 (te:TE):TS:=fun D σ H=>te σ H fun _ H1=>D.nx σ H1
theorem bU {X:Cx} {pos:Pos} (he:PE X e te) (hs:swapsWith e none pos.line X.env=pure false:=by rfl):PS X (.Expr e pos) (P0 te):=by
 intro Z s σ H D I h
 exact wpAny_Expr_any (cz (he Z s σ H _ I h) fun v s1 ⟨x,H1,I1,r1,q1⟩=>⟨σ,H1,I1,q1⟩) I.quiet hs
def Vl (te:TE):TS:=fun D σ H=>te σ H D.rt
theorem aD (he:PE X e te):PS X (.Return (some e) pos) (Vl te):=by
 intro Z s σ H D I h
 exact wpAny_Return_some (cz (he Z s σ H _ I h) fun v s1 ⟨x,H1,I1,r1,q1⟩=>⟨x,σ,H1,I1,r1,q1⟩)
def Px (c:TT) (t u:TS):TS:=fun D σ H=>c σ H fun b H1=>if b=true then t D σ H1 else u D σ H1
theorem aZ {c:Expr} {a b:List Stmt} {tc:TT} (hc:PT X c tc) (ha:u_ X a t) (hb:u_ X b u):PS X (.If c a b pos) (Px tc t u):=by
 intro Z s σ H D I h
 refine wpAny_If (cz (hc Z s σ H _ I h) fun d s1 ⟨H1,I1,q1⟩=>?_)
 cases d with
 |true=>exact ha Z s1 σ H1 D I1 q1
 |false=>exact hb Z s1 σ H1 D I1 q1
def JZ:TS:=fun _ _ _=>False
theorem cC {X:Cx} {st:Stmt}:PS X st JZ:=fun _ _ _ _ _ _ h=>h.elim
abbrev TG:=V->St->Hp->(St->Hp->Prop)->Prop
abbrev M7:=List V->St->Hp->(St->Hp->Prop)->Prop
def PG (X:Cx) (target:Expr) (t:TG):Prop:=
 ∀ (Z:List (Addr×Obj)) (s:Shared) (σ:St) (H:Hp) (v:V) (u:Value) (Q:St->Hp->Prop),Inv X Z σ H s->RelV v u->t v σ H Q->
   wpAny (model X.prog X.w) X.A (assign target X.env u) (fun _ s'=>∃ σ' H',Inv X Z σ' H' s'/\Q σ' H') X.xe s
def Ug (X:Cx) (ts:List Expr) (t:M7):Prop:=
 ∀ (Z:List (Addr×Obj)) (s:Shared) (σ:St) (H:Hp) (vs:List V) (us:List Value) (Q:St->Hp->Prop),Inv X Z σ H s->Vals vs us->t vs σ H Q->
   wpAny (model X.prog X.w) X.A (assignInOrder ((assignEach ts X.env).map (·.2)) us) (fun _ s'=>∃ σ' H',Inv X Z σ' H' s'/\Q σ' H') X.xe s
abbrev Vf:=V->V->Hp->VK->Prop
def Xj (X:Cx) (op:Operator) (t:Vf):Prop:=
 ∀ (Z:List (Addr×Obj)) (s:Shared) (σ:St) (H:Hp) (x y:V) (v u:Value) (Q:VK),Inv X Z σ H s->RelV x v->RelV y u->t x y H Q->
   wpAny (model X.prog X.w) X.A (inplaceOp op v u) (EP X Z σ Q) X.xe s
def bh (i:Nat):TG:=fun v σ H Q=>Q (σ.set i (some v)) H
theorem aC (hN:X.N.Nodup) (hi:X.N[i]?=some x) (hx:Loc X.env.scope x) (hf:X.fn x=true∨X.env.scope.names.lookup x=some .local:=by first|exact .inl rfl|exact .inr rfl|assumption):PG X (.Name x pos) (bh i):=by
 intro Z s σ H v u Q I r h
 exact wpAny_assign_Name (mW I hN hi hx r (fun s' I'=>⟨_,H,I',h⟩) hf)
def Bt:M7:=fun vs σ H Q=>vs=[]/\Q σ H
def lM (t:TG) (u:M7):M7:=fun vs σ H Q=>∃ v r,vs=v::r/\t v σ H fun σ' H'=>u r σ' H' Q
theorem cA:Ug X [] Bt:=by
 intro Z s σ H vs us Q I r h
 obtain ⟨e,h⟩:=h
 subst e
 cases r
 exact assignInOrder_nil ⟨σ,H,I,h⟩
theorem aM {X:Cx} {e:Expr} {es:List Expr} {t:TG} {u:M7} (h1:PG X e t) (h2:Ug X es u)
 (hs:(assignEach (e::es) X.env).map (·.2)=assign e X.env::(assignEach es X.env).map (·.2):=by rfl):Ug X (e::es) (lM t u):=by
 intro Z s σ H vs us Q I r h
 obtain ⟨v,vr,e1,h⟩:=h
 subst e1
 cases r with
 | cons r rr=>
   rw [hs]
   refine assignInOrder_cons (cz (h1 Z s σ H _ _ _ I r h) fun _ s1 ⟨σ1,H1,I1,q1⟩=>?_)
   exact h2 Z s1 σ1 H1 _ _ Q I1 rr q1
def Ci (K:PySem.W.Frag) (n:Nat) (t:M7):TG:=fun v σ H Q=>∃ a xs,v=.ref a/\bI K H a xs/\xs.length=n/\t xs σ H Q
theorem cQ (hc:X.calm=true) (h:Ug X es t)
 (hn:(assignEach es X.env).length=n:=by rfl) (hst:(assignEach es X.env).findIdx? (·.1)=none:=by rfl):PG X (.Tuple es k pos) (Ci X.K n t):=by
 intro Z s σ H v u Q I r hw
 obtain ⟨a,xs,e1,hq,hl,hw⟩:=hw
 subst e1
 cases r
 obtain ⟨its,rv,ht,hz⟩:=I.tuple hq
 refine assign_Tuple_tuple (I.ok.hd hc) ht (by simp [hn,← hl,rv.length]) hst fun h' hx=>?_
 have I1:Inv X Z σ H { s with heap:=h' }:=I.kept (t':=s.toks) fun b o e=>hx b o (Nat.ne_of_lt (Heap.lt_size e)) e
 exact h Z _ σ H xs _ Q I1 (by simpa using rv) hw
def BL (te:TE) (g:TG):TS:=fun D σ H=>te σ H fun x H1=>g x σ H1 D.nx
theorem gQ {X:Cx} {pos:Pos} {tg e:Expr} {te:TE} {g:TG} (he:PE X e te) (hg:PG X tg g) (hs:swapsWithSole [tg] e pos.line X.env=pure false:=by rfl) (hw:swappedStores [tg] e X.env=pure none:=by rfl)
 (h1:(assignEach [tg] X.env).map (·.2)=[assign tg X.env]:=by rfl):PS X (.Assign [tg] e pos) (BL te g):=by
 intro Z s σ H D I h
 refine wpAny_Assign_stores (cz (he Z s σ H _ I h) fun v s1 ⟨x,H1,I1,r1,q1⟩=>?_) hs hw
 rw [h1]
 exact cz (hg Z s1 σ H1 x v _ I1 r1 q1) fun _ s2 q=>q
theorem aU {X:Cx} {pos:Pos} {i:Nat} {x:Str} {e:Expr} {te:TE} {pos':Pos} (hN:X.N.Nodup) (hi:X.N[i]?=some x) (hx:Loc X.env.scope x) (he:PE X e te) (hs:swapsWith e (some (.Name x pos')) pos.line X.env=pure false:=by rfl) (hf:X.fn x=true∨X.env.scope.names.lookup x=some .local:=by first|exact .inl rfl|exact .inr rfl|assumption) :
 PS X (.Assign [.Name x pos'] e pos) (BL te (bh i)):=by
 intro Z s σ H D I h
 refine wpAny_Assign_Name (cz (he Z s σ H _ I h) fun v s1 ⟨y,H1,I1,r1,q1⟩=>?_) hs
 exact mW I1 hN hi hx r1 (fun s2 I2=>⟨_,H1,I2,q1⟩) hf
def Vd (i:Nat) (te:TE) (ti:Vf):TS:=fun D σ H=>∃ x,σ[i]?=some (some x)/\te σ H fun y H1=>ti x y H1 fun z H2=>D.nx (σ.set i (some z)) H2
theorem Av {X:Cx} {i:Nat} {x:Str} {e:Expr} {te:TE} {op:Operator} {ti:Vf} {pos':Pos} (hN:X.N.Nodup) (hi:X.N[i]?=some x) (hx:Loc X.env.scope x) (he:PE X e te) (ho:Xj X op ti) (hf:X.fn x=true∨X.env.scope.names.lookup x=some .local:=by first|exact .inl rfl|exact .inr rfl|assumption) :
 PS X (.AugAssign (.Name x pos') op e pos) (Vd i te ti):=by
 intro Z s σ H D I h
 obtain ⟨v,e1,h⟩:=h
 obtain ⟨m,hn,hl⟩:=I.loc
 have vis:Rq X.env.scope x:=by rcases hx with k|k;exact .inl k;exact .inr (.inl k)
 obtain ⟨u,r,l⟩:=hl i x v hi e1 vis
 refine wpAny_AugAssign_Name ?_
 have go:wpAny (model X.prog X.w) X.A (eval e X.env) (fun w s₂=>wpAny (model X.prog X.w) X.A (inplaceOp op u w) (fun r s₃=>wpAny (model X.prog X.w) X.A (storeName X.env x r) (fun _=>SP X Z D .next) X.xe s₃) X.xe s₂) X.xe s:=by
  refine cz (he Z s σ H _ I h) fun w s1 ⟨y,H1,I1,r1,q1⟩=>?_
  refine cz (ho Z s1 σ H1 v y u w _ I1 r r1 q1) fun z s2 ⟨zv,H2,I2,r2,q2⟩=>?_
  exact mW I2 hN hi hx r2 (fun s3 I3=>⟨_,H2,I3,q2⟩) hf
 rcases l with ⟨hk,hm⟩|⟨hk,c,hc,hcell⟩
 ·exact wpAny_loadName_local I.ok.kind hk hn hm go
 ·rcases hk with hk|hk
  ·exact wpAny_loadName_cell I.ok.kind hk hc hcell go
  ·rcases hx with k|k
   ·have:X.env.scope.names.lookup x=some .free:=hk
    rw [k] at this;cases this
   ·have:X.env.scope.names.lookup x=some .free:=hk
    rw [k] at this;cases this
def zP (c:TT) (tb:TS):TS:=fun D σ H=>∃ W:Nat->St->Hp->Prop,(∃ m,W m σ H)/\∀ m σ H,W m σ H->
 c σ H fun b H1=>if b=true then ∃ N:St->Hp->Prop,(∀ σ' H',N σ' H'->∃ m',m'<m/\W m' σ' H')/\tb { D with nx:=N,ct:=N,bk:=D.nx } σ H1 else D.nx σ H1
theorem qW {X:Cx} {c:Expr} {body:List Stmt} {tc:TT} {tb:TS} (hp:PassesOwn (model X.prog X.w) X.A X.env X.xe) (hc:PT X c tc) (hb:u_ X body tb):PS X (.While c body [] pos) (zP tc tb):=by
 intro Z s σ H D I h
 obtain ⟨W,⟨m0,w0⟩,turn⟩:=h
 refine wpAny_While (codeAny_whileLoop (fun n s'=>∃ σ' H',Inv X Z σ' H' s'/\W n σ' H') ?_ m0 ⟨σ,H,I,w0⟩)
 rintro n s1 ⟨σ1,H1,I1,w1⟩
 refine wpAny_passesOwn hp (cz (hc Z s1 σ1 H1 _ I1 (turn n σ1 H1 w1)) fun b s2 ⟨H2,I2,q2⟩=>?_)
 cases b with
 | true=>
   obtain ⟨N,hN,q2⟩:=q2
   rw [if_pos rfl]
   refine wpAny_passesOwn hp (cz (hb Z s2 σ1 H2 _ I2 q2) fun f s3 q3=>?_)
   cases f with
   | next=>
     obtain ⟨σ3,H3,I3,n3⟩:=q3
     obtain ⟨m',hm,w3⟩:=hN σ3 H3 n3
     exact ⟨m',hm,σ3,H3,I3,w3⟩
   | cont=>
     obtain ⟨σ3,H3,I3,n3⟩:=q3
     obtain ⟨m',hm,w3⟩:=hN σ3 H3 n3
     exact ⟨m',hm,σ3,H3,I3,w3⟩
   |brk=>exact q3
   |ret v=>exact q3
 | false=>
   rw [if_neg Bool.false_ne_true]
   exact wpAny_execs_nil ⟨σ1,H2,I2,q2⟩
structure It where
 go:Nat->Hp->Prop
 yld:Nat->Hp->V->Hp->Prop
 stop:Nat->Hp->Prop
def gZ (X:Cx) (Z:List (Addr×Obj)) (H:Hp) (b:Addr):Prop:=
 H b=none/\b≠X.env.locals/\b∉X.fs/\(b∈X.ex∨X.s₀.heap.objs.size≤b)/\(∀ x c,X.env.cells.lookup x=some c->c≠b)/\∀ p∈X.pn++Z,p.1≠b
theorem Inv.fpOk (I:Inv X Z σ H s) (hb:s.heap.objs.size≤b) (hn:H' b=none):gZ X Z H' b:=by
 refine ⟨hn,Nat.ne_of_gt (Nat.lt_of_lt_of_le I.lt hb),I.nofs hb,.inr (Nat.le_trans I.sz hb),fun x c e z=>?_,fun p hp z=>?_⟩
 ·obtain ⟨v,q⟩:=I.cell x c e
  exact absurd (Nat.lt_of_lt_of_le q.lt (by rw [z];exact hb)) (Nat.lt_irrefl _)
 ·exact absurd (Nat.lt_of_lt_of_le (Heap.lt_size (I.pin p hp).1) (by rw [z];exact hb)) (Nat.lt_irrefl _)
structure Turn (P:Program) (w:World) (K:PySem.W.Frag) (tg:Expr) (J:It) (fp:List Addr) (it:Addr) (tn:Nat->Heap->Prop):Prop where
 mem:it∈fp
 obj:∀ i h,tn i h->∀ b∈fp,∃ o,h.get? b=some o/\∀ v,o.data≠.cell v
 keep:∀ i h h',tn i h->(∀ b∈fp,∀ o,h.get? b=some o->h'.get? b=some o)->tn i h'
 item:∀ (X:Cx),X.prog=P->X.w=w->X.K=K->X.calm=true->∀ (i:Nat) (Z:List (Addr×Obj)) (s:Shared) (σ:St) (H:Hp) (E:Value->Shared->Prop),Inv X Z σ H s->(∀ b∈fp,gZ X Z H b)->tn i s.heap->J.go i H->
  wpAny (model P w) X.A (pyNext (.ref it)) (fun r s1=>∃ u,r=some u/\
   wpAny (model P w) X.A (letOwnedTupleGo tg (.ref it) u) (fun _ s2=>∃ x H',Inv X Z σ H' s2/\RelV x u/\J.yld i H x H'/\tn (i+1) s2.heap/\∀ b∈fp,H' b=none) E s1) E s
 done:∀ (X:Cx),X.prog=P->X.w=w->X.K=K->X.calm=true->∀ (i:Nat) (Z:List (Addr×Obj)) (s:Shared) (σ:St) (H:Hp) (E:Value->Shared->Prop),Inv X Z σ H s->(∀ b∈fp,gZ X Z H b)->tn i s.heap->J.stop i H->
  wpAny (model P w) X.A (pyNext (.ref it)) (fun r s1=>r=none/\Inv X Z σ H s1) E s
 self:∀ (A:Around) (i:Nat) (s:Shared) (Q:Value->Shared->Prop) (E:Value->Shared->Prop),tn i s.heap->Q (.ref it) s->wpAny (model P w) A (pyIter (.ref it)) Q E s
abbrev TI:=St->Hp->(It->Hp->Prop)->Prop
def PIE (X:Cx) (Z:List (Addr×Obj)) (σ:St) (tg:Expr) (R:It->Hp->Prop) (itv:Value) (s2:Shared):Prop:=
 ∃ (it:Addr) (fp:List Addr) (tn:Nat->Heap->Prop) (J:It) (H':Hp),itv=.ref it/\Inv X Z σ H' s2/\Turn X.prog X.w X.K tg J fp it tn/\tn 0 s2.heap/\(∀ b∈fp,gZ X Z H' b)/\R J H'
def PI (X:Cx) (tg iter:Expr) (wi:TI):Prop:=
 ∀ (Z:List (Addr×Obj)) (s:Shared) (σ:St) (H:Hp) (R:It->Hp->Prop),Inv X Z σ H s->wi σ H R->
   wpAny (model X.prog X.w) X.A (eval iter X.env) (fun v s1=>wpAny (model X.prog X.w) X.A (pyIter v) (PIE X Z σ tg R) X.xe s1) X.xe s
theorem vV (ho:s.heap.get? it=some o) (hc:o.cls=.type n) (hd:o.data=.fields vs)
 (hn:["enumerate","zip","dict_itemiterator","dict_reverseitemiterator","odict_iterator","itertools.zip_longest","itertools.pairwise"].contains n=false) (hQ:Q () s):wpAny M A (letOwnedTupleGo tg (.ref it) u) Q E s:=by
 unfold letOwnedTupleGo
 cases tg <;> first
  |exact wpAny_pure hQ
  |(cases u <;> first
   |exact wpAny_pure hQ
   | (refine wpAny_bind (wpAny_load ho ?_)
      rw [hc,hd]
      show wpAny M A (if (["enumerate","zip","dict_itemiterator","dict_reverseitemiterator","odict_iterator","itertools.zip_longest","itertools.pairwise"].contains n && vs[0]? == some (rawInt _))=true then _ else _) Q E s
      rw [if_neg (by intro h;rw [hn,Bool.false_and] at h;cases h)]
      exact wpAny_pure hQ))
def G9 (K:PySem.W.Frag) (a:Addr):It:=
 ⟨fun i H=>∃ xs x,bD K H a xs/\xs[i]?=some x,fun i H x H'=>H'=H/\∀ xs,bD K H a xs->xs[i]?=some x,fun i H=>∃ xs,bD K H a xs/\xs.length≤i⟩
def M8 (K:PySem.W.Frag) (a:Addr):It:=
 ⟨fun i H=>∃ xs x,bI K H a xs/\xs[i]?=some x,fun i H x H'=>H'=H/\∀ xs,bI K H a xs->xs[i]?=some x,fun i H=>∃ xs,bI K H a xs/\xs.length≤i⟩
def Gw (lo:Int) (n:Nat):It:=⟨fun i _=>i<n,fun i H x H'=>H'=H/\x=.int (lo+i),fun i _=>n≤i⟩
theorem wH {P:Program} {w:World} {K:PySem.W.Frag} {tg:Expr} (a it:Addr):Turn P w K tg (G9 K a) [it] it (fun i h=>h.IsListIter it a i) where
 mem:=by simp
 obj:=fun i h st b hb=>by
  have e:b=it:=by simpa using hb
  subst e
  obtain ⟨o,e,c,d⟩:=st
  exact ⟨o,e,fun v z=>by rw [d] at z;cases z⟩
 keep:=fun i h h' st k=>st.at fun o e=>k it (by simp) o e
 item:=by
  intro X hP hw hK hc i Z s σ H E I hf st hg
  subst hP hw hK
  obtain ⟨xs,x,hq,hx⟩:=hg
  obtain ⟨its,rv,p,hz⟩:=I.list hq
  obtain ⟨u,hu,ru⟩:=rv.get hx
  obtain ⟨f0,f1,f2,f3,f4,f5⟩:=hf it (by simp)
  refine wpAny_pyNext_list_item st p.isList (x:=u) (by simpa using hu) fun h' st' sb=>?_
  have I1:Inv X Z σ H { s with heap:=h' }:=I.turned (t':=s.toks) (fun b o hb e=>(sb.2 b hb).trans e) f0 f1 f3 f4 f5
  obtain ⟨o,e,c,d⟩:=id st'
  exact ⟨u,rfl,vV (s:={ s with heap:=h' }) e c d (by decide) ⟨x,H,I1,ru,⟨rfl,fun ys hy=>by rw [I.list_inj hy hq];exact hx⟩,st',fun b hb=>(hf b hb).1⟩⟩
 done:=by
  intro X hP hw hK hc i Z s σ H E I hf st hg
  subst hP hw hK
  obtain ⟨xs,hq,hx⟩:=hg
  obtain ⟨its,rv,p,hz⟩:=I.list hq
  obtain ⟨f0,f1,f2,f3,f4,f5⟩:=hf it (by simp)
  have hl:=rv.length
  exact wpAny_pyNext_list_end (I.ok.hd hc) st p.isList (by simp;omega) fun h' eb=>⟨rfl,I.turned (t':=s.toks) (fun b o hb e=>eb b o hb e) f0 f1 f3 f4 f5⟩
 self:=fun _ _ _ _ _ st h=>wpAny_pyIter_listiter st h
theorem uF {P:Program} {w:World} {K:PySem.W.Frag} {tg:Expr} (a it:Addr):Turn P w K tg (M8 K a) [it] it (fun i h=>h.IsTupleIter it a i) where
 mem:=by simp
 obj:=fun i h st b hb=>by
  have e:b=it:=by simpa using hb
  subst e
  obtain ⟨o,e,c,d⟩:=st
  exact ⟨o,e,fun v z=>by rw [d] at z;cases z⟩
 keep:=fun i h h' st k=>st.at fun o e=>k it (by simp) o e
 item:=by
  intro X hP hw hK hc i Z s σ H E I hf st hg
  subst hP hw hK
  obtain ⟨xs,x,hq,hx⟩:=hg
  obtain ⟨its,rv,p,hz⟩:=I.tuple hq
  obtain ⟨u,hu,ru⟩:=rv.get hx
  obtain ⟨f0,f1,f2,f3,f4,f5⟩:=hf it (by simp)
  refine wpAny_pyNext_tuple_item st (show s.heap.IsTuple a its.toArray from p) (x:=u) (by simpa using hu) fun h' st' sb=>?_
  have I1:Inv X Z σ H { s with heap:=h' }:=I.turned (t':=s.toks) (fun b o hb e=>(sb.2 b hb).trans e) f0 f1 f3 f4 f5
  obtain ⟨o,e,c,d⟩:=id st'
  exact ⟨u,rfl,vV (s:={ s with heap:=h' }) e c d (by decide) ⟨x,H,I1,ru,⟨rfl,fun ys hy=>by rw [I.tuple_inj hy hq];exact hx⟩,st',fun b hb=>(hf b hb).1⟩⟩
 done:=by
  intro X hP hw hK hc i Z s σ H E I hf st hg
  subst hP hw hK
  obtain ⟨xs,hq,hx⟩:=hg
  obtain ⟨its,rv,p,hz⟩:=I.tuple hq
  obtain ⟨f0,f1,f2,f3,f4,f5⟩:=hf it (by simp)
  have hl:=rv.length
  exact wpAny_pyNext_tuple_end (I.ok.hd hc) st (show s.heap.IsTuple a its.toArray from p) (by simp;omega) fun h' eb=>⟨rfl,I.turned (t':=s.toks) (fun b o hb e=>eb b o hb e) f0 f1 f3 f4 f5⟩
 self:=fun _ _ _ _ _ st h=>wpAny_pyIter_tupleiter st h
theorem ut {P:Program} {w:World} {K:PySem.W.Frag} {tg:Expr} (it:Addr) (lo:Int) (n:Nat):Turn P w K tg (Gw lo n) [it] it (fun i h=>IsRangeIter h it (lo+(i:Nat)*1) ((n:Int)-(i:Nat)) 1) where
 mem:=by simp
 obj:=fun i h st b hb=>by
  have e:b=it:=by simpa using hb
  subst e
  exact ⟨_,st,fun v z=>by
   have z':Data.fields _=Data.cell v:=z
   cases z'⟩
 keep:=fun i h h' st k=>k it (by simp) _ st
 item:=by
  intro X hP hw hK hc i Z s σ H E I hf st hg
  subst hP hw hK
  obtain ⟨f0,f1,f2,f3,f4,f5⟩:=hf it (by simp)
  have W:=Walks.range (prog:=X.prog) (w:=X.w) (I.ok.hd hc) it lo 1 n
  refine W.item i s _ _ hg st fun v h' tk hv st' kk=>?_
  obtain ⟨t,rfl⟩:=hv
  have I1:Inv X Z σ H { s with heap:=h',toks:=tk }:=I.turned (fun b o hb e=>kk b o (by simpa using hb) e) f0 f1 f3 f4 f5
  refine ⟨_,rfl,vV (s:={ s with heap:=h',toks:=tk }) (n:="range_iterator") st' rfl rfl (by decide) ⟨.int (lo+i),H,I1,⟨t,?_⟩,⟨rfl,rfl⟩,st',fun b hb=>(hf b hb).1⟩⟩
  rw [Int.mul_one]
 done:=by
  intro X hP hw hK hc i Z s σ H E I hf st hg
  subst hP hw hK
  obtain ⟨f0,f1,f2,f3,f4,f5⟩:=hf it (by simp)
  exact wpAny_pyNext_range_end (I.ok.hd hc) st (by have:n≤i:=hg;omega) fun h' eb=>⟨rfl,I.turned (t':=s.toks) (fun b o hb e=>eb b o hb e) f0 f1 f3 f4 f5⟩
 self:=fun _ _ _ _ _ st h=>wpAny_pyIter_rangeiter st h
def vB (K:PySem.W.Frag) (tl:TE):TI:=fun σ H R=>tl σ H fun x H1=>∃ a,x=.ref a/\(∃ xs,bD K H1 a xs)/\R (G9 K a) H1
def Wi (K:PySem.W.Frag) (tl:TE):TI:=fun σ H R=>tl σ H fun x H1=>∃ a,x=.ref a/\(∃ xs,bI K H1 a xs)/\R (M8 K a) H1
theorem dM {X:Cx} {l:Expr} {tl:TE} (hl:PE X l tl):PI X tg l (vB X.K tl):=by
 intro Z s σ H R I h
 refine cz (hl Z s σ H _ I h) fun v s1 ⟨x,H1,I1,r1,q1⟩=>?_
 obtain ⟨a,e,⟨xs,hq⟩,q⟩:=q1
 subst e
 cases r1
 obtain ⟨its,rv,p,hz⟩:=I1.list hq
 refine wpAny_pyIter_list p.isList ?_
 refine ⟨s1.heap.objs.size,[s1.heap.objs.size],_,_,H1,rfl,I1.kept (t':=s1.toks) fun b o e=>Heap.get?_push_of_some _ e,wH a _,⟨_,Heap.get?_push_size _ rfl,rfl,rfl⟩,fun b hb=>?_,q⟩
 have e:b=s1.heap.objs.size:=by simpa using hb
 subst e
 exact I1.fpOk (Nat.le_refl _) (I1.hok.fresh (Nat.le_refl _))
theorem iK {X:Cx} {l:Expr} {tl:TE} (hl:PE X l tl):PI X tg l (Wi X.K tl):=by
 intro Z s σ H R I h
 refine cz (hl Z s σ H _ I h) fun v s1 ⟨x,H1,I1,r1,q1⟩=>?_
 obtain ⟨a,e,⟨xs,hq⟩,q⟩:=q1
 subst e
 cases r1
 obtain ⟨its,rv,p,hz⟩:=I1.tuple hq
 refine wpAny_pyIter_tuple (show s1.heap.IsTuple a its.toArray from p) ?_
 refine ⟨s1.heap.objs.size,[s1.heap.objs.size],_,_,H1,rfl,I1.kept (t':=s1.toks) fun b o e=>Heap.get?_push_of_some _ e,uF a _,⟨_,Heap.get?_push_size _ rfl,rfl,rfl⟩,fun b hb=>?_,q⟩
 have e:b=s1.heap.objs.size:=by simpa using hb
 subst e
 exact I1.fpOk (Nat.le_refl _) (I1.hok.fresh (Nat.le_refl _))
theorem rA {X:Cx} {Z:List (Addr×Obj)} {σ:St} {H:Hp} {s:Shared} {R:It->Hp->Prop} {E:Value->Shared->Prop} {lo hi:Int} {t u v:Tok} {tk:Nat} (I:Inv X Z σ H s) (h1:-(2 ^ 62)≤lo) (h2:lo<2 ^ 62) (h3:-(2 ^ 62)≤hi) (h4:hi<2 ^ 62)
 (q:R (Gw lo (hi-lo).toNat) H):wpAny (model X.prog X.w) X.A (pyIter (.ref s.heap.objs.size)) (PIE X Z σ tg R) E { s with heap:=s.heap.push { cls:=.type "range",data:=.fields #[.int lo t,.int hi u,.int 1 v] },toks:=tk }:=by
 refine wpAny_pyIter_range (IsRange.new ..) (small_one h1 h2 h3 h4) ?_
 have I1:Inv X Z σ H { s with heap:=s.heap.push { cls:=.type "range",data:=.fields #[.int lo t,.int hi u,.int 1 v] },toks:=tk }:=I.kept fun b o e=>Heap.get?_push_of_some _ e
 refine ⟨(s.heap.push { cls:=.type "range",data:=.fields #[.int lo t,.int hi u,.int 1 v] }).objs.size,[(s.heap.push { cls:=.type "range",data:=.fields #[.int lo t,.int hi u,.int 1 v] }).objs.size],_,_,H,rfl,
  I1.kept (t':=tk) fun b o e=>Heap.get?_push_of_some _ e,ut _ lo (hi-lo).toNat,?_,fun b hb=>?_,q⟩
 ·have e1:lo+((0:Nat):Int)*1=lo:=by simp
  have e2:(((hi-lo).toNat:Nat):Int)-((0:Nat):Int)=Builtin.Range.rangeSize lo hi 1:=by rw [rangeSize_one];split <;> omega
  show IsRangeIter _ _ (lo+((0:Nat):Int)*1) ((((hi-lo).toNat:Nat):Int)-((0:Nat):Int)) 1
  rw [e1,e2]
  exact Heap.get?_push_size _ rfl
 ·have e:b=(s.heap.push { cls:=.type "range",data:=.fields #[.int lo t,.int hi u,.int 1 v] }).objs.size:=by simpa using hb
  subst e
  exact I1.fpOk (Nat.le_refl _) (I1.hok.fresh (Nat.le_refl _))
def S9 (ta:TA):TI:=fun σ H R=>ta σ H fun vs H1=>∃ j:Int,vs=[.int j]/\-(2 ^ 62)≤j/\j<2 ^ 62/\R (Gw 0 j.toNat) H1
def Qm (ta:TA):TI:=fun σ H R=>ta σ H fun vs H1=>∃ i j:Int,vs=[.int i,.int j]/\(-(2 ^ 62)≤i/\i<2 ^ 62/\-(2 ^ 62)≤j/\j<2 ^ 62)/\R (Gw i (j-i).toNat) H1
theorem iz {X:Cx} {a:Expr} {ta:TA} {p pos:Pos} (hg:Gl X "range") (hm:X.mg "range" = none) (ha:PA X [a] ta) (hs:starEach [a] X.env=[(false,eval a X.env)]:=by rfl):PI X tg (.Call (.Name "range" p) [a] [] pos) (S9 ta):=by
 intro Z s σ H R I h
 refine Call_ (eU I hg hm boot_range (PyProof.Rows.callWith_type1 (cz (ha pos Z s σ H _ I h) fun us s1 ⟨vs,H1,I1,r1,q1⟩=>?_) hs rfl))
 obtain ⟨j,e,q1,q2,q⟩:=q1
 subst e
 cases r1 with
 | cons r rr=>
   cases rr
   obtain ⟨t,rfl⟩:=r
   exact call_range_1 (rA I1 (by omega) (by omega) q1 q2 (by simpa using q))
theorem xq {X:Cx} {a b:Expr} {ta:TA} {p pos:Pos} (hg:Gl X "range") (hm:X.mg "range" = none) (ha:PA X [a,b] ta) (hs:starEach [a,b] X.env=[(false,eval a X.env),(false,eval b X.env)]:=by rfl) (hs2:starEach [b] X.env=[(false,eval b X.env)]:=by rfl) :
 PI X tg (.Call (.Name "range" p) [a,b] [] pos) (Qm ta):=by
 intro Z s σ H R I h
 refine Call_ (eU I hg hm boot_range (PyProof.Rows.callWith_type1 (cz (ha pos Z s σ H _ I h) fun us s1 ⟨vs,H1,I1,r1,q1⟩=>?_) (by rw [hs,hs2]) (by rw [hs2];rfl)))
 obtain ⟨i,j,e,⟨q1,q2,q3,q4⟩,q⟩:=q1
 subst e
 cases r1 with
 | cons r rr=>
   cases rr with
   | cons r' rr=>
     cases rr
     obtain ⟨t,rfl⟩:=r
     obtain ⟨t',rfl⟩:=r'
     exact call_range_2 (rA I1 q1 q2 q3 q4 q)
def VB (wi:TI) (g:TG) (tb:TS):TS:=fun D σ H=>wi σ H fun J H1=>∃ W:Nat->Nat->St->Hp->Prop,(∃ m,W 0 m σ H1)/\∀ i m σ H,W i m σ H->
 (J.stop i H/\D.nx σ H)∨(J.go i H/\∃ N:St->Hp->Prop,(∀ σ' H',N σ' H'->∃ m',m'<m/\W (i+1) m' σ' H')/\∀ x H',J.yld i H x H'->g x σ H' fun σ2 H2=>tb { D with nx:=N,ct:=N,bk:=D.nx } σ2 H2)
def gP (fp:List Addr) (h:Heap):List (Addr×Obj):=fp.filterMap fun b=>(h.get? b).map fun o=>(b,o)
theorem cP (hb:b∈fp) (e:h.get? b=some o):(b,o)∈gP fp h:=List.mem_filterMap.mpr ⟨b,hb,by rw [e];rfl⟩
theorem p6 (hp:p∈gP fp h):p.1∈fp/\h.get? p.1=some p.2:=by
 obtain ⟨b,hb,e⟩:=List.mem_filterMap.mp hp
 cases q:h.get? b with
 |none=>rw [q] at e;cases e
 | some o=>
   rw [q] at e
   have e':(b,o)=p:=Option.some.inj e
   subst e'
   exact ⟨hb,q⟩
theorem Inv.pinned (I:Inv X Z σ H s) (hf:∀ b∈fp,gZ X Z H b) (ho:∀ b∈fp,∃ o,s.heap.get? b=some o/\∀ v,o.data≠.cell v):Inv X (Z++gP fp s.heap) σ H s:=
 I.pins_of fun p hp=>(List.mem_append.mp hp).elim (fun z=>I.pin p (List.mem_append_right _ z)) fun z=>by
  obtain ⟨hb,e⟩:=p6 z
  obtain ⟨f0,f1,f2,_⟩:=hf p.1 hb
  obtain ⟨o,e',d⟩:=ho p.1 hb
  rw [e] at e';cases e'
  exact ⟨e,f0,f1,f2,d⟩
theorem Inv.unpinned (I:Inv X (Z++pl) σ H s):Inv X Z σ H s:=I.pins_of fun p hp=>I.pin p (List.mem_append_right _ (List.mem_append_left _ hp))
theorem dj {X:Cx} {iter:Expr} {body:List Stmt} {wi:TI} {g:TG} {tb:TS} {pos:Pos} (hp:PassesOwn (model X.prog X.w) X.A X.env X.xe) (hc:X.calm=true) (hi:PI X tg iter wi) (hg:PG X tg g) (hb:u_ X body tb)
 (hs:∀ x,foldedSetIterable iter X.env x=pure x:=by intro _;rfl):PS X (.For tg iter body [] pos) (VB wi g tb):=by
 intro Z s σ H D I h
 refine wpAny_For (cz (hi Z s σ H _ I h) fun v s1 h1=>cz h1 fun itv s2 h2=>?_) hs
 obtain ⟨it,fp,tn,J,H2,e,I2,T,st2,f2,W,⟨m0,w0⟩,turn⟩:=h2
 subst e
 have stat:∀ {H':Hp},(∀ b∈fp,H' b=none)->∀ b∈fp,gZ X Z H' b:=fun hn b hb=>⟨hn b hb,(f2 b hb).2⟩
 refine codeAny_forLoop_any (fun n s'=>∃ i σ' H',Inv X Z σ' H' s'/\tn i s'.heap/\(∀ b∈fp,H' b=none)/\W i n σ' H') ?_ m0 ⟨0,σ,H2,I2,st2,fun b hb=>(f2 b hb).1,w0⟩
 rintro n s3 ⟨i,σ3,H3,I3,st3,fr3,w3⟩
 rcases turn i n σ3 H3 w3 with ⟨stop,qn⟩|⟨go,N,hN,step⟩
 ·refine wpAny_passesOwn hp (cz (T.done X rfl rfl rfl hc i Z s3 σ3 H3 X.xe I3 (stat fr3) st3 stop) fun r s4 ⟨hr,I4⟩=>?_)
  subst hr
  exact wpAny_execs_nil ⟨σ3,H3,I4,qn⟩
 ·refine wpAny_passesOwn hp (cz (T.item X rfl rfl rfl hc i Z s3 σ3 H3 X.xe I3 (stat fr3) st3 go) fun r s4 ⟨u,hr,h4⟩=>?_)
  subst hr
  refine wpAny_passesOwn hp (cz h4 fun _ s5 ⟨x,H5,I5,r5,y5,st5,fr5⟩=>?_)
  have I5':=I5.pinned (stat fr5) (T.obj _ _ st5)
  refine wpAny_passesOwn hp (cz (hg _ s5 σ3 H5 x u _ I5' r5 (step x H5 y5)) fun _ s6 ⟨σ6,H6,I6,q6⟩=>?_)
  refine wpAny_passesOwn hp (cz (hb _ s6 σ6 H6 _ I6 q6) fun f s7 q7=>?_)
  have again:∀ {σ7:St} {H7:Hp},Inv X (Z++gP fp s5.heap) σ7 H7 s7->N σ7 H7->∃ m,m<n/\∃ i σ' H',Inv X Z σ' H' s7/\tn i s7.heap/\(∀ b∈fp,H' b=none)/\W i m σ' H':=fun {σ7 H7} I7 n7=>by
   obtain ⟨m',hm,w7⟩:=hN σ7 H7 n7
   refine ⟨m',hm,i+1,σ7,H7,I7.unpinned,T.keep _ _ _ st5 fun b hb o e=>(I7.pin (b,o) (List.mem_append_right _ (List.mem_append_right _ (cP hb e)))).1,fun b hb=>?_,w7⟩
   obtain ⟨o,e,d⟩:=T.obj _ _ st5 b hb
   exact (I7.pin (b,o) (List.mem_append_right _ (List.mem_append_right _ (cP hb e)))).2.1
  cases f with
  |next=>obtain ⟨σ7,H7,I7,n7⟩:=q7;exact again I7 n7
  |cont=>obtain ⟨σ7,H7,I7,n7⟩:=q7;exact again I7 n7
  |brk=>obtain ⟨σ7,H7,I7,q7⟩:=q7;exact ⟨σ7,H7,I7.unpinned,q7⟩
  |ret v=>obtain ⟨x7,σ7,H7,I7,r7,q7⟩:=q7;exact ⟨x7,σ7,H7,I7.unpinned,r7,q7⟩
theorem ii {K:PySem.W.Frag} {a:Addr} {xs:List V} {g:TG} {tb:TS} {D:Ends} {σ:St} {H:Hp} (Pv:Nat->St->Hp->Prop) (h0:Pv 0 σ H) (hl:∀ i σ H,i≤xs.length->Pv i σ H->bD K H a xs)
 (hs:∀ i x σ H,xs[i]?=some x->Pv i σ H->g x σ H fun σ2 H2=>tb { D with nx:=Pv (i+1),ct:=Pv (i+1),bk:=D.nx } σ2 H2) (hd:∀ σ H,Pv xs.length σ H->D.nx σ H) :
 ∃ W:Nat->Nat->St->Hp->Prop,(∃ m,W 0 m σ H)/\∀ i m σ H,W i m σ H->
   ((G9 K a).stop i H/\D.nx σ H)∨((G9 K a).go i H/\∃ N:St->Hp->Prop,(∀ σ' H',N σ' H'->∃ m',m'<m/\W (i+1) m' σ' H')/\∀ x H',(G9 K a).yld i H x H'->g x σ H' fun σ2 H2=>tb { D with nx:=N,ct:=N,bk:=D.nx } σ2 H2):=by
 refine ⟨fun i m σ H=>m=xs.length-i/\i≤xs.length/\Pv i σ H,⟨xs.length,by simp,Nat.zero_le _,h0⟩,?_⟩
 rintro i m σ H ⟨rfl,hi,p⟩
 have q:=hl i σ H hi p
 by_cases hlt:i<xs.length
 ·refine .inr ⟨⟨xs,xs[i],q,by simp [hlt]⟩,Pv (i+1),fun σ' H' p'=>⟨xs.length-(i+1),by omega,rfl,hlt,p'⟩,fun x H' y=>?_⟩
  obtain ⟨e,y⟩:=y
  subst e
  exact hs i x σ _ (y xs q) p
 ·have e:i=xs.length:=by omega
  subst e
  exact .inl ⟨⟨xs,q,Nat.le_refl _⟩,hd σ H p⟩
theorem m6 {K:PySem.W.Frag} {a:Addr} {xs:List V} {g:TG} {tb:TS} {D:Ends} {σ:St} {H:Hp} (Pv:Nat->St->Hp->Prop) (h0:Pv 0 σ H) (hl:∀ i σ H,i≤xs.length->Pv i σ H->bI K H a xs)
 (hs:∀ i x σ H,xs[i]?=some x->Pv i σ H->g x σ H fun σ2 H2=>tb { D with nx:=Pv (i+1),ct:=Pv (i+1),bk:=D.nx } σ2 H2) (hd:∀ σ H,Pv xs.length σ H->D.nx σ H) :
 ∃ W:Nat->Nat->St->Hp->Prop,(∃ m,W 0 m σ H)/\∀ i m σ H,W i m σ H->
   ((M8 K a).stop i H/\D.nx σ H)∨((M8 K a).go i H/\∃ N:St->Hp->Prop,(∀ σ' H',N σ' H'->∃ m',m'<m/\W (i+1) m' σ' H')/\∀ x H',(M8 K a).yld i H x H'->g x σ H' fun σ2 H2=>tb { D with nx:=N,ct:=N,bk:=D.nx } σ2 H2):=by
 refine ⟨fun i m σ H=>m=xs.length-i/\i≤xs.length/\Pv i σ H,⟨xs.length,by simp,Nat.zero_le _,h0⟩,?_⟩
 rintro i m σ H ⟨rfl,hi,p⟩
 have q:=hl i σ H hi p
 by_cases hlt:i<xs.length
 ·refine .inr ⟨⟨xs,xs[i],q,by simp [hlt]⟩,Pv (i+1),fun σ' H' p'=>⟨xs.length-(i+1),by omega,rfl,hlt,p'⟩,fun x H' y=>?_⟩
  obtain ⟨e,y⟩:=y
  subst e
  exact hs i x σ _ (y xs q) p
 ·have e:i=xs.length:=by omega
  subst e
  exact .inl ⟨⟨xs,q,Nat.le_refl _⟩,hd σ H p⟩
theorem lD {lo:Int} {n:Nat} {g:TG} {tb:TS} {D:Ends} {σ:St} {H:Hp} (Pv:Nat->St->Hp->Prop) (h0:Pv 0 σ H)
 (hs:∀ i σ H,i<n->Pv i σ H->g (.int (lo+i)) σ H fun σ2 H2=>tb { D with nx:=Pv (i+1),ct:=Pv (i+1),bk:=D.nx } σ2 H2) (hd:∀ σ H,Pv n σ H->D.nx σ H) :
 ∃ W:Nat->Nat->St->Hp->Prop,(∃ m,W 0 m σ H)/\∀ i m σ H,W i m σ H->
   ((Gw lo n).stop i H/\D.nx σ H)∨((Gw lo n).go i H/\∃ N:St->Hp->Prop,(∀ σ' H',N σ' H'->∃ m',m'<m/\W (i+1) m' σ' H')/\∀ x H',(Gw lo n).yld i H x H'->g x σ H' fun σ2 H2=>tb { D with nx:=N,ct:=N,bk:=D.nx } σ2 H2):=by
 refine ⟨fun i m σ H=>m=n-i/\i≤n/\Pv i σ H,⟨n,by simp,Nat.zero_le _,h0⟩,?_⟩
 rintro i m σ H ⟨rfl,hi,p⟩
 by_cases hlt:i<n
 ·refine .inr ⟨hlt,Pv (i+1),fun σ' H' p'=>⟨n-(i+1),by omega,rfl,hlt,p'⟩,fun x H' y=>?_⟩
  obtain ⟨e,y⟩:=y
  subst e y
  exact hs i σ _ hlt p
 ·have e:i=n:=by omega
  subst e
  exact .inl ⟨Nat.le_refl _,hd σ H p⟩
theorem qQ (Pv:St->Hp->Prop) (μ:St->Hp->Nat) (h0:Pv σ H)
 (hs:∀ σ H,Pv σ H->c σ H fun b H1=>if b=true then tb { D with nx:=fun σ' H'=>Pv σ' H'/\μ σ' H'<μ σ H,ct:=fun σ' H'=>Pv σ' H'/\μ σ' H'<μ σ H,bk:=D.nx } σ H1 else D.nx σ H1)
 (mono:∀ σ H Q Q',(∀ b H1,Q b H1->Q' b H1)->c σ H Q->c σ H Q'):zP c tb D σ H:=by
 refine ⟨fun m σ H=>m=μ σ H/\Pv σ H,⟨_,rfl,h0⟩,?_⟩
 rintro m σ H ⟨rfl,p⟩
 refine mono σ H _ _ (fun b H1 q=>?_) (hs σ H p)
 cases b with
 |true=>exact ⟨_,fun σ' H' ⟨p',l⟩=>⟨_,l,rfl,p'⟩,q⟩
 |false=>exact q
abbrev R2:=V->V->Hp->VK->Prop
def iT (X:Cx) (f:Value->Value->Sem Value) (r:R2):Prop:=
 ∀ (Z:List (Addr×Obj)) (s:Shared) (σ:St) (H:Hp) (x y:V) (v u:Value) (Q:VK),Inv X Z σ H s->RelV x v->RelV y u->r x y H Q->
   wpAny (model X.prog X.w) X.A (f v u) (EP X Z σ Q) X.xe s
def Wc (X:Cx) (f:Value->Sem Value) (r:V->Hp->VK->Prop):Prop:=
 ∀ (Z:List (Addr×Obj)) (s:Shared) (σ:St) (H:Hp) (x:V) (v:Value) (Q:VK),Inv X Z σ H s->RelV x v->r x H Q->
   wpAny (model X.prog X.w) X.A (f v) (EP X Z σ Q) X.xe s
def gF (X:Cx) (f:Value) (r:List V->Hp->VK->Prop):Prop:=
 ∀ (Z:List (Addr×Obj)) (s:Shared) (σ:St) (H:Hp) (xs:List V) (us:List Value) (Q:VK),Inv X Z σ H s->Vals xs us->r xs H Q->
   wpAny (model X.prog X.w) X.A (call f us) (EP X Z σ Q) X.xe s
def Uk (r:R2) (ta tb:TE):TE:=fun σ H Q=>ta σ H fun x H1=>tb σ H1 fun y H2=>r x y H2 Q
def WD (r:V->Hp->VK->Prop) (ta:TE):TE:=fun σ H Q=>ta σ H fun x H1=>r x H1 Q
def rI (C:Int->Int->Prop) (g:Int->Int->V):R2:=fun x y H Q=>∃ i j,x=.int i/\y=.int j/\C i j/\Q (g i j) H
def Br (g:Int->Int->V):R2:=fun x y H Q=>∃ i j,x=.int i/\y=.int j/\Q (g i j) H
def rU (g:Int->V):V->Hp->VK->Prop:=fun x H Q=>∃ i,x=.int i/\Q (g i) H
section
variable {X:Cx} {a b c:Expr} {ta tb tc:TE} {pos:Pos}
theorem LR (ha:PE X a ta) (hb:PE X b tb) {Z:List (Addr×Obj)} {s:Shared} {σ:St} {H:Hp} {R:V->V->Hp->Prop} (I:Inv X Z σ H s)
 (h:ta σ H fun x H1=>tb σ H1 fun y H2=>R x y H2) {Q:Value->Shared->Prop} {f:Value->Value->Sem Value}
 (hf:∀ v u s2 x y H2,Inv X Z σ H2 s2->RelV x v->RelV y u->R x y H2->wpAny (model X.prog X.w) X.A (f v u) Q X.xe s2) :
 wpAny (model X.prog X.w) X.A (eval a X.env) (fun v s₁=>wpAny (model X.prog X.w) X.A (eval b X.env) (fun u s₂=>wpAny (model X.prog X.w) X.A (f v u) Q X.xe s₂) X.xe s₁) X.xe s:=by
 refine cz (ha Z s σ H _ I h) fun v s1 ⟨x,H1,I1,r1,q1⟩=>?_
 refine cz (hb Z s1 σ H1 _ I1 q1) fun u s2 ⟨y,H2,I2,r2,q2⟩=>?_
 exact hf v u s2 x y H2 I2 r1 r2 q2
theorem aX (ho:iT X (binaryOp op) r) (ha:PE X a ta) (hb:PE X b tb):PE X (.BinOp a op b pos) (Uk r ta tb):=by
 intro Z s σ H Q I h
 exact wpAny_BinOp (LR ha hb I h fun v u s2 x y H2 I2 rx ry q=>ho Z s2 σ H2 x y v u Q I2 rx ry q)
theorem pF {op:UnaryOp} {r:V->Hp->VK->Prop} (ho:Wc X (unaryOp op) r) (ha:PE X a ta):PE X (.UnaryOp op a pos) (WD r ta):=by
 intro Z s σ H Q I h
 exact UnaryOp_ (cz (ha Z s σ H _ I h) fun v s1 ⟨x,H1,I1,r1,q1⟩=>ho Z s1 σ H1 x v Q I1 r1 q1)
theorem Qs {f:Value->Value->Sem Value} {C:Int->Int->Prop} {g:Int->Int->Int}
 (rule:∀ (i j:Int) (t u:Tok) (s:Shared) (Q:Value->Shared->Prop) (E:Value->Shared->Prop),C i j->Q (.int (g i j) s.toks) { s with toks:=s.toks+1 }->wpAny (model X.prog X.w) X.A (f (.int i t) (.int j u)) Q E s) :
 iT X f (rI C fun i j=>.int (g i j)):=by
 intro Z s σ H x y v u Q I rx ry h
 obtain ⟨i,j,rfl,rfl,hc,q⟩:=h
 obtain ⟨t,rfl⟩:=rx
 obtain ⟨t',rfl⟩:=ry
 exact rule i j t t' s _ _ hc ⟨.int (g i j),H,I.tok _,⟨_,rfl⟩,q⟩
theorem K_ {f:Value->Value->Sem Value} {g:Int->Int->Int}
 (rule:∀ (i j:Int) (t u:Tok) (s:Shared) (Q:Value->Shared->Prop) (E:Value->Shared->Prop),Q (.int (g i j) s.toks) { s with toks:=s.toks+1 }->wpAny (model X.prog X.w) X.A (f (.int i t) (.int j u)) Q E s) :
 iT X f (Br fun i j=>.int (g i j)):=by
 intro Z s σ H x y v u Q I rx ry h
 obtain ⟨i,j,rfl,rfl,q⟩:=h
 obtain ⟨t,rfl⟩:=rx
 obtain ⟨t',rfl⟩:=ry
 exact rule i j t t' s _ _ ⟨.int (g i j),H,I.tok _,⟨_,rfl⟩,q⟩
theorem Ew {f:Value->Value->Sem Value} {g:Int->Int->Bool}
 (rule:∀ (i j:Int) (t u:Tok) (s:Shared) (Q:Value->Shared->Prop) (E:Value->Shared->Prop),Q (.bool (g i j)) s->wpAny (model X.prog X.w) X.A (f (.int i t) (.int j u)) Q E s) :
 iT X f (Br fun i j=>.bl (g i j)):=by
 intro Z s σ H x y v u Q I rx ry h
 obtain ⟨i,j,rfl,rfl,q⟩:=h
 obtain ⟨t,rfl⟩:=rx
 obtain ⟨t',rfl⟩:=ry
 exact rule i j t t' s _ _ ⟨.bl (g i j),H,I,rfl,q⟩
def Ux (i j:Int):Prop:=0<j/\j<1073741824
def Wu (i j:Int):Prop:=0≤j/\j≤1000000/\i.natAbs<2 ^ 64
def Bw (i j:Int):Prop:=(-(2 ^ 64)<i/\i<2 ^ 64)∨(-(2 ^ 64)<j/\j<2 ^ 64)
theorem Bw.ok (h:Bw i j):IntMulOk i j:=by
 rcases h with ⟨h1,h2⟩|⟨h1,h2⟩
 ·exact .of_left (intBits_le_64 h1 h2)
 ·exact .of_right (intBits_le_64 h1 h2)
theorem c7:iT X (binaryOp .Add) (Br fun i j=>.int (i+j)):=K_ fun _ _ _ _ _ _ _ q=>add_int q
theorem fU:iT X (binaryOp .Sub) (Br fun i j=>.int (i-j)):=K_ fun _ _ _ _ _ _ _ q=>sub_int q
theorem jM:iT X (binaryOp .Mult) (rI Bw fun i j=>.int (i*j)):=Qs fun _ _ _ _ _ _ _ hc q=>mul_int q hc.ok
theorem vK:iT X (binaryOp .FloorDiv) (rI Ux fun i j=>.int (i / j)):=Qs fun i j _ _ _ _ _ hc q=>by
 have h1:(0:Int)<j:=hc.1
 have h2:j<1073741824:=hc.2
 exact floordiv_int (by omega) (by rw [Int.fdiv_eq_ediv_of_nonneg i (by omega)];exact q) (.inl (PyProof.noPylong_small (by omega)))
theorem gR:iT X (binaryOp .Mod) (rI (fun _ j=>0<j) fun i j=>.int (i % j)):=Qs fun i j _ _ _ _ _ hc q=>by
 have h1:(0:Int)<j:=hc
 exact mod_int' (by omega) (by rw [Int.fmod_eq_emod_of_nonneg i (by omega)];exact q)
theorem Ln:iT X (binaryOp .Pow) (rI Wu fun i j=>.int (i ^ j.toNat)):=Qs fun _ _ _ _ _ _ _ hc q=>pow_int_small hc.1 hc.2.1 hc.2.2 q
theorem v6:iT X (inplaceOp .Add) (Br fun i j=>.int (i+j)):=K_ fun _ _ _ _ _ _ _ q=>iadd_int q
theorem X4 {f:Value->Sem Value} {g:Int->Int}
 (rule:∀ (i:Int) (t:Tok) (s:Shared) (Q:Value->Shared->Prop) (E:Value->Shared->Prop),Q (.int (g i) s.toks) { s with toks:=s.toks+1 }->wpAny (model X.prog X.w) X.A (f (.int i t)) Q E s) :
 Wc X f (rU fun i=>.int (g i)):=by
 intro Z s σ H x v Q I rx h
 obtain ⟨i,rfl,q⟩:=h
 obtain ⟨t,rfl⟩:=rx
 exact rule i t s _ _ ⟨.int (g i),H,I.tok _,⟨_,rfl⟩,q⟩
theorem lJ:Wc X (unaryOp .USub) (rU fun i=>.int (-i)):=X4 fun _ _ _ _ _ q=>neg_int q
end
def Od:V->V->Bool
 |.non,.non=>true|.non,.int _=>true|.int _,.non=>true|.non,.bl _=>true|.bl _,.non=>true|.non,.str _=>true|.str _,.non=>true
 |.int _,.int _=>true|.bl _,.bl _=>true|.str _,.str _=>true|.byt _,.byt _=>true
 |.int _,.str _=>true|.str _,.int _=>true|.bl _,.str _=>true|.str _,.bl _=>true
 |_,_=>false
def Xq:R2:=fun x y H Q=>Od x y=true/\Q (.bl (decide (x=y))) H
def X5:R2:=fun x y H Q=>Od x y=true/\Q (.bl (!decide (x=y))) H
theorem jn:decide (V.int i=V.int j)=(i == j):=by
 rw [Bool.eq_iff_iff]
 simp
theorem zK:decide (V.bl i=V.bl j)=(i == j):=by
 rw [Bool.eq_iff_iff]
 simp
theorem dU:decide (V.str i=V.str j)=(i == j):=by
 rw [Bool.eq_iff_iff]
 simp
theorem v7:decide (V.byt i=V.byt j)=(i.toList == j.toList):=by
 rw [Bool.eq_iff_iff]
 cases i
 cases j
 simp
theorem bM (I:Inv X Z σ H s) (q:Q (.bl k) H) (e:k=k'):EP X Z σ Q (.bool k') s:=by
 subst e
 exact ⟨.bl k,H,I,rfl,q⟩
theorem bQ:iT X (compareOp .Eq) Xq:=by
 intro Z s σ H x y v u Q I rx ry h
 obtain ⟨hs,q⟩:=h
 cases x with
 | non=>
   cases rx
   cases y with
   |non=>cases ry;exact PySem.EqNone.eq_none_none (bM I q (by simp))
   |bl j=>cases ry;exact PySem.EqNone.eq_none_bool (bM I q (by simp))
   |int j=>obtain ⟨t',rfl⟩:=ry;exact PySem.EqNone.eq_none_int (bM I q (by simp))
   |str j=>obtain ⟨t',rfl⟩:=ry;exact PySem.EqNone.eq_none_str (bM I q (by simp))
   |_=>exact absurd (show false=true from hs) Bool.false_ne_true
 | bl i=>
   cases rx
   cases y with
   |non=>cases ry;exact PySem.EqNone.eq_bool_none (bM I q (by simp))
   |bl j=>cases ry;exact eq_bool (bM I q zK)
   |str j=>obtain ⟨t',rfl⟩:=ry;exact PySem.EqMixed.eq_bool_str (bM I q (by simp))
   |_=>exact absurd (show false=true from hs) Bool.false_ne_true
 | int i=>
   obtain ⟨t,rfl⟩:=rx
   cases y with
   |non=>cases ry;exact PySem.EqNone.eq_int_none (bM I q (by simp))
   |int j=>obtain ⟨t',rfl⟩:=ry;exact eq_int (bM I q jn)
   |str j=>obtain ⟨t',rfl⟩:=ry;exact PySem.EqMixed.eq_int_str (bM I q (by simp))
   |_=>exact absurd (show false=true from hs) Bool.false_ne_true
 | str i=>
   obtain ⟨t,rfl⟩:=rx
   cases y with
   |non=>cases ry;exact PySem.EqNone.eq_str_none (bM I q (by simp))
   |bl j=>cases ry;exact PySem.EqMixed.eq_str_bool (bM I q (by simp))
   |int j=>obtain ⟨t',rfl⟩:=ry;exact PySem.EqMixed.eq_str_int (bM I q (by simp))
   |str j=>obtain ⟨t',rfl⟩:=ry;exact eq_str (bM I q dU)
   |_=>exact absurd (show false=true from hs) Bool.false_ne_true
 | byt i=>
   obtain ⟨t,rfl⟩:=rx
   cases y with
   |byt j=>obtain ⟨t',rfl⟩:=ry;exact PySem.W.eq_bytes (bM I q v7)
   |_=>exact absurd (show false=true from hs) Bool.false_ne_true
 |_=>cases y <;> exact absurd (show false=true from hs) Bool.false_ne_true
theorem j8:iT X (compareOp .NotEq) X5:=by
 intro Z s σ H x y v u Q I rx ry h
 obtain ⟨hs,q⟩:=h
 cases x with
 | non=>
   cases rx
   cases y with
   |non=>cases ry;exact PySem.EqNone.ne_none_none (bM I q (by simp))
   |bl j=>cases ry;exact PySem.EqNone.ne_none_bool (bM I q (by simp))
   |int j=>obtain ⟨t',rfl⟩:=ry;exact PySem.EqNone.ne_none_int (bM I q (by simp))
   |str j=>obtain ⟨t',rfl⟩:=ry;exact PySem.EqNone.ne_none_str (bM I q (by simp))
   |_=>exact absurd (show false=true from hs) Bool.false_ne_true
 | bl i=>
   cases rx
   cases y with
   |non=>cases ry;exact PySem.EqNone.ne_bool_none (bM I q (by simp))
   |bl j=>cases ry;exact ne_bool (bM I q (congrArg not zK))
   |str j=>obtain ⟨t',rfl⟩:=ry;exact PySem.EqMixed.ne_bool_str (bM I q (by simp))
   |_=>exact absurd (show false=true from hs) Bool.false_ne_true
 | int i=>
   obtain ⟨t,rfl⟩:=rx
   cases y with
   |non=>cases ry;exact PySem.EqNone.ne_int_none (bM I q (by simp))
   |int j=>obtain ⟨t',rfl⟩:=ry;exact ne_int (bM I q (congrArg not jn))
   |str j=>obtain ⟨t',rfl⟩:=ry;exact PySem.EqMixed.ne_int_str (bM I q (by simp))
   |_=>exact absurd (show false=true from hs) Bool.false_ne_true
 | str i=>
   obtain ⟨t,rfl⟩:=rx
   cases y with
   |non=>cases ry;exact PySem.EqNone.ne_str_none (bM I q (by simp))
   |bl j=>cases ry;exact PySem.EqMixed.ne_str_bool (bM I q (by simp))
   |int j=>obtain ⟨t',rfl⟩:=ry;exact PySem.EqMixed.ne_str_int (bM I q (by simp))
   |str j=>obtain ⟨t',rfl⟩:=ry;exact ne_str (bM I q (congrArg not dU))
   |_=>exact absurd (show false=true from hs) Bool.false_ne_true
 | byt i=>
   obtain ⟨t,rfl⟩:=rx
   cases y with
   |byt j=>obtain ⟨t',rfl⟩:=ry;exact PySem.W.ne_bytes (bM I q (congrArg not v7))
   |_=>exact absurd (show false=true from hs) Bool.false_ne_true
 |_=>cases y <;> exact absurd (show false=true from hs) Bool.false_ne_true
theorem jH:iT X (compareOp .Lt) (Br fun i j=>.bl (decide (i<j))):=Ew fun _ _ _ _ _ _ _ q=>lt_int q
theorem gJ:iT X (compareOp .LtE) (Br fun i j=>.bl (decide (i≤j))):=Ew fun _ _ _ _ _ _ _ q=>le_int q
theorem uX:iT X (compareOp .Gt) (Br fun i j=>.bl (decide (j<i))):=Ew fun _ _ _ _ _ _ _ q=>gt_int q
theorem SQ:iT X (compareOp .GtE) (Br fun i j=>.bl (decide (j≤i))):=Ew fun _ _ _ _ _ _ _ q=>ge_int q
theorem yp:iT X (compareOp .In) (fun x y H Q=>∃ i j,x=.str i/\y=.str j/\Q (.bl (!(Builtin.Str.occurrences j i 0 j.length 1).isEmpty)) H):=by
 intro Z s σ H x y v u Q I rx ry h
 obtain ⟨i,j,rfl,rfl,q⟩:=h
 obtain ⟨t,rfl⟩:=rx
 obtain ⟨t',rfl⟩:=ry
 exact in_str (bM I q rfl)
theorem uJ:iT X (compareOp .Is) (fun x y H Q=>y=.non/\Q (.bl (decide (x=.non))) H):=by
 intro Z s σ H x y v u Q I rx ry h
 obtain ⟨rfl,q⟩:=h
 cases ry
 refine is_none_gen (bM I q ?_)
 cases x <;> first
  |(cases rx;rfl)
  |(obtain ⟨t,rfl⟩:=rx;rfl)
theorem aQ (b:Expr) (h:op≠.In:=by decide) (h2:op≠.NotIn:=by decide):behindInMarks op b=false:=by
 have e1:(op == CmpOp.In)=false:=by cases op <;> first|rfl|exact absurd rfl h
 have e2:(op == CmpOp.NotIn)=false:=by cases op <;> first|rfl|exact absurd rfl h2
 cases b <;> simp [behindInMarks,e1,e2]
theorem cU (ho:iT X (compareOp op) r) (ha:PE X a ta) (hb:PE X b tb) (hm:behindInMarks op b=false):PE X (.Compare a [op] [b] pos) (Uk r ta tb):=by
 intro Z s σ H Q I h
 exact wpAny_Compare1 (LR ha hb I h fun v u s2 x y H2 I2 rx ry q=>ho Z s2 σ H2 x y v u Q I2 rx ry q) hm
def wu (t:TE):TT:=fun σ H Q=>t σ H fun x H'=>∃ k,x=.bl k/\Q k H'
theorem aG {op:CmpOp} {r:R2} (ho:iT X (compareOp op) r) (ha:PE X a ta) (hb:PE X b tb) (hm:behindInMarks op b=false):PT X (.Compare a [op] [b] pos) (wu (Uk r ta tb)):=by
 intro Z s σ H Q I h
 refine wpAny_isTrue_Compare1 (cz (ha Z s σ H _ I h) fun v s1 ⟨x,H1,I1,r1,q1⟩=>cz (hb Z s1 σ H1 _ I1 q1) fun u s2 ⟨y,H2,I2,r2,q2⟩=>
  cz (ho Z s2 σ H2 x y v u _ I2 r1 r2 q2) fun c s3 ⟨z,H3,I3,r3,k,e,q3⟩=>?_) hm
 subst e
 cases r3
 exact wpAny_truthy_bool ⟨H3,I3,q3⟩
def tO (r r':R2) (ta tb tc:TE):TE:=fun σ H Q=>ta σ H fun x H1=>tb σ H1 fun y H2=>r x y H2 fun z H3=>∃ k,z=.bl k/\
 (if k=true then tc σ H3 fun w' H4=>r' y w' H4 Q else Q (.bl false) H3)
theorem mG {op op':CmpOp} {r r':R2} (ho:iT X (compareOp op) r) (ho':iT X (compareOp op') r') (ha:PE X a ta) (hb:PE X b tb) (hc:PE X c tc)
 (hm:lastMarks [op,op'] [b,c]=false:=by with_unfolding_all rfl):PE X (.Compare a [op,op'] [b,c] pos) (tO r r' ta tb tc):=by
 intro Z s σ H Q I h
 refine Compare_chain (cz (ha Z s σ H _ I h) fun v s1 ⟨x,H1,I1,r1,q1⟩=>chain_link (cz (hb Z s1 σ H1 _ I1 q1) fun u s2 ⟨y,H2,I2,r2,q2⟩=>
  cz (ho Z s2 σ H2 x y v u _ I2 r1 r2 q2) fun d s3 ⟨z,H3,I3,r3,k,e,q3⟩=>?_)) hm
 subst e
 cases r3
 refine wpAny_truthy_bool ?_
 cases k with
 |false=>exact ite_ff ⟨.bl false,H3,I3,rfl,q3⟩
 |true=>exact ite_tt (chain_last (cz (hc Z s3 σ H3 _ I3 q3) fun w' s4 ⟨z',H4,I4,r4,q4⟩=>ho' Z s4 σ H4 y z' u w' Q I4 r2 r4 q4))
theorem n6 {op op':CmpOp} {r r':R2} (ho:iT X (compareOp op) r) (ho':iT X (compareOp op') r') (ha:PE X a ta) (hb:PE X b tb) (hc:PE X c tc)
 (hm:lastMarks [op,op'] [b,c]=false:=by with_unfolding_all rfl):PT X (.Compare a [op,op'] [b,c] pos) (wu (tO r r' ta tb tc)):=by
 intro Z s σ H Q I h
 refine isTrue_chain (cz (ha Z s σ H _ I h) fun v s1 ⟨x,H1,I1,r1,q1⟩=>test_link (cz (hb Z s1 σ H1 _ I1 q1) fun u s2 ⟨y,H2,I2,r2,q2⟩=>
  cz (ho Z s2 σ H2 x y v u _ I2 r1 r2 q2) fun d s3 ⟨z,H3,I3,r3,k,e,q3⟩=>?_)) hm
 subst e
 cases r3
 refine wpAny_truthy_bool ?_
 cases k with
 | false=>
   obtain ⟨k',e',q'⟩:=q3
   cases e'
   exact ite_ff ⟨H3,I3,q'⟩
 | true=>
   refine ite_tt (test_last (cz (hc Z s3 σ H3 _ I3 q3) fun w' s4 ⟨z',H4,I4,r4,q4⟩=>cz (ho' Z s4 σ H4 y z' u w' _ I4 r2 r4 q4) fun d' s5 ⟨z2,H5,I5,r5,k2,e2,q5⟩=>?_))
   subst e2
   cases r5
   exact wpAny_truthy_bool ⟨H5,I5,q5⟩
theorem lH:(sizeLine:Nat)<2 ^ 63:=by rw [sizeLine_eq];decide
theorem jU:iT X (binaryOp .Add) (fun x y H Q=>∃ i j,x=.str i/\y=.str j/\i.length+j.length≤sizeLine/\Q (.str (i++j)) H):=by
 intro Z s σ H x y v u Q I rx ry h
 obtain ⟨i,j,rfl,rfl,hz,q⟩:=h
 obtain ⟨t,rfl⟩:=rx
 obtain ⟨t',rfl⟩:=ry
 exact add_str (fun t' tk=>⟨.str (i++j),H,I.tok _,⟨_,rfl⟩,q⟩) hz
theorem vals1 (r:Vals [x] us):∃ u,us=[u]/\RelV x u:=by
 cases r with
 |cons r1 r2=>cases r2;exact ⟨_,rfl,r1⟩
theorem vals2 (r:Vals [x,y] us):∃ u w',us=[u,w']/\RelV x u/\RelV y w':=by
 cases r with
 | cons r1 r2=>
   cases r2 with
   |cons r3 r4=>cases r4;exact ⟨_,_,rfl,r1,r3⟩
theorem kI:gF X (.type "str") (fun xs H Q=>∃ i,xs=[.int i]/\i.natAbs.log2<1920/\Q (.str (toString i)) H):=by
 intro Z s σ H xs us Q I r h
 obtain ⟨i,rfl,hz,q⟩:=h
 obtain ⟨u,rfl,t,rfl⟩:=vals1 r
 exact PySem.P.str_of_int hz ⟨.str _,H,I.tok _,⟨_,rfl⟩,q⟩
structure ud (h:Heap) (x dx C:Addr) (mA:Str->Option Value):Prop where
 obj:h.get? x=some (PySem.W.instObj C dx)
 ns:h.Ns1 dx mA
 ne:dx≠x
theorem xU {h:Heap} {mA:Str->Option Value} (n:h.Ns1 dx mA):∃ od,h.get? dx=some od/\∀ name,PySem.W.lookIn name od=some (mA name):=by
 obtain ⟨o,es,ep,ho,hd,hk,_,hm⟩:=n
 refine ⟨o,ho,fun name=>?_⟩
 have e:=hm name
 unfold nsFind findBy at e
 rw [← Array.find?_toList] at e
 unfold PySem.W.lookIn
 rw [hd]
 dsimp only
 split
 ·rename_i y q
  rw [q] at e
  exact congrArg some e
 ·rename_i q
  rw [q] at e
  have a:es.toList.any (·.refKey)=false:=by
   rw [List.any_eq_false]
   intro y hy
   obtain ⟨z,t,hkey⟩:=hk y (Array.mem_toList_iff.mp hy)
   simp [DictEntry.refKey,hkey]
  have a':¬ es.toList.any (·.refKey)=true:=by rw [a];exact Bool.false_ne_true
  rw [if_neg a']
  exact congrArg some e
theorem ud.look (I:ud h x dx C mA):∃ od,PySem.W.InstAt h x (PySem.W.instObj C dx) C (some od)/\∀ name,PySem.W.lookIn name od=some (mA name):=
 let ⟨od,ho,hl⟩:=xU I.ns
 ⟨od,⟨I.obj,rfl,rfl,ho⟩,hl⟩
section
variable {prog:Program} {w:World} {A:Around} {E:Value->Shared->Prop} {s:Shared} {K:PySem.W.Frag} {x dx C f:Addr} {mA:Str->Option Value} {name:Str} {v:Value}
theorem Cd (X:K.In s.heap) (I:ud s.heap x dx C mA) (hg:PySem.W.plainGet K C name=true) (hh:PySem.W.hasDictIn K C=true)
 (ha:PySem.W.findIn K (.ref C) name=some none) (hv:mA name=some v) (hv':PySem.W.handedIn v=true) (h:Q v { s with toks:=s.toks+1 }) :
 wpAny (model prog w) A (getAttr (.ref x) name expr) Q E s:=by
 obtain ⟨od,J,hl⟩:=I.look
 exact PySem.W.get_value X J (PySem.W.plainGet_of hg).1 (PySem.W.findObj_own hh ha rfl (by rw [hl,hv])) hv' h
theorem yO (X:K.In s.heap) (I:ud s.heap x dx C mA) (hg:PySem.W.plainGet K C name=true)
 (hf:PySem.W.findIn K (.ref C) name=some (some (.ref f))) (ht:PySem.W.isFn K (.ref f)=true) (hv:mA name=none) (h:Q (.ref f,[.ref x]) s) :
 wpAny (model prog w) A (getMethod (.ref x) name pl) Q E s:=by
 obtain ⟨od,J,hl⟩:=I.look
 exact PySem.W.method_fn X J (PySem.W.plainGet_of hg).1 (PySem.W.plainGet_of hg).2 hf (beq_iff_eq.mp ht) (by show (PySem.W.lookIn name od).map (·.isSome)=some false;rw [hl,hv];rfl) h
theorem Bu (X:K.In s.heap) (I:ud s.heap x dx C mA)
 (hs:PySem.W.findIn K (.ref C) "__setattr__" = some (some (.builtin "object.__setattr__"))) (hp:PySem.W.plainOver K C=true) (ht:PySem.W.takerIn K C name=some none) (hh:PySem.W.hasDictIn K C=true)
 (hw:PySem.Within mA ns) (hsz:ns.length≤sizeLine)
 (h:∀ h',ud h' x dx C (fun y=>if y=name then some v else mA y)->Heap.SameBut dx s.heap h'->Q () { s with heap:=h',toks:=s.toks+2 }) :
 wpAny (model prog w) A (setAttr (.ref x) name v) Q E s:=by
 obtain ⟨od,J,hl⟩:=I.look
 refine PySem.W.set_plain X J hs (PySem.W.osa_open (s:={ s with toks:=s.toks+1 }) (r:=none) X J hp ht fun b=>?_)
 obtain ⟨cd,hc,hd'⟩:=PySem.W.any_some hh
 have hx:s.heap.get? x=some ⟨.ref C,some dx,.plain,#[]⟩:=I.obj
 refine wpAny_bind (wpAny_pure (wpAny_bind (wpAny_bind (wpAny_loadPart hx (wpAny_bind (PySem.W.Looks.here (s:={ s with toks:=s.toks+1 }) (PySem.W.looks_clsIn X hc) ?_))))))
 rw [hd']
 refine wpAny_pure (a:=some dx) (wpAny_bind (wpAny_pure (wpAny_bind ?_)))
 refine wpAny_nsSet1 (s:={ s with toks:=s.toks+1 }) I.ns fun h' hn2 hs2=>?_
 obtain ⟨oD,esD,epD,hoD,hdD,hcD⟩:=hn2.count (PySem.Within.cons name v hw)
 refine wpAny_bind (wpAny_lookBehind hoD (by rw [hdD];exact pastItsLine_dict (Nat.le_trans hcD (by rw [List.length_cons];omega))) ?_)
 exact wpAny_pure (h _ ⟨(hs2.2 _ (Ne.symm I.ne)).trans I.obj,hn2,I.ne⟩ hs2)
theorem Ae (X:K.In s.heap) (hm:PySem.W.makesIn K C=true)
 (hi:PySem.W.findIn K (.ref C) "__init__" = some (some (.ref f))) (hf:PySem.W.typeIn K (.ref f)=some (.type "function"))
 (h:codeAny (model prog w) (A.under (.builtin "type.__call__" ⟨.ref C::vs,kw⟩)) (.call (.ref f) ⟨.ref (s.heap.objs.size+1)::vs,kw⟩) (PySem.W.InitBack (s.heap.objs.size+1) R)
  { s with heap:=(s.heap.push PySem.W.emptyDict).push (PySem.W.instObj C s.heap.objs.size) }) :
 codeAny (model prog w) A (.call (.ref C) ⟨vs,kw⟩) R s:=by
 obtain ⟨hh,g,d,t,os⟩:=s
 exact PySem.W.make_core (PySem.W.makes_of X hm) (PySem.W.looks_findIn X hi) (fun self=>PySem.W.bind_fn X self hf) (.inl rfl) h
end
def iU (f:Str) (v:V):List (Str×V)->List (Str×V)
 |[]=>[(f,v)]
 |(g,x)::r=>if g=f then (g,v)::r else (g,x)::iU f v r
theorem dC (f g:Str) (v:V):∀ fs:List (Str×V),(iU f v fs).lookup g=if g=f then some v else fs.lookup g
 | []=>by
   show List.lookup g [(f,v)]=_
   by_cases h:g=f
   ·have hb:(g == f)=true:=beq_iff_eq.mpr h
    simp only [List.lookup,hb,if_pos h]
   ·have hb:(g == f)=false:=beq_eq_false_iff_ne.mpr h
    simp only [List.lookup,hb,if_neg h]
 | (k,x)::r=>by
   have ih:=dC f g v r
   rw [show iU f v ((k,x)::r)=(if k=f then (k,v)::r else (k,x)::iU f v r) from rfl]
   by_cases hk:k=f
   ·rw [if_pos hk]
    by_cases h:g=k
    ·have hb:(g == k)=true:=beq_iff_eq.mpr h
     simp only [List.lookup,hb,if_pos (h.trans hk)]
    ·have hb:(g == k)=false:=beq_eq_false_iff_ne.mpr h
     simp only [List.lookup,hb,if_neg (fun e:g=f=>h (e.trans hk.symm))]
   ·rw [if_neg hk]
    by_cases h:g=k
    ·have hb:(g == k)=true:=beq_iff_eq.mpr h
     simp only [List.lookup,hb,if_neg (fun e:g=f=>hk (h.symm.trans e))]
    ·have hb:(g == k)=false:=beq_eq_false_iff_ne.mpr h
     simp only [List.lookup,hb]
     exact ih
theorem lF (f:Str) (v:V):∀ fs:List (Str×V),f∈(iU f v fs).map (·.1)/\∀ g,g∈fs.map (·.1)->g∈(iU f v fs).map (·.1)
 |[]=>⟨by simp [iU],fun g h=>by simp at h⟩
 | (k,x)::r=>by
   obtain ⟨i1,i2⟩:=lF f v r
   rw [show iU f v ((k,x)::r)=(if k=f then (k,v)::r else (k,x)::iU f v r) from rfl]
   by_cases hk:k=f
   ·rw [if_pos hk]
    subst hk
    exact ⟨by simp,fun g h=>by simpa using h⟩
   ·rw [if_neg hk]
    refine ⟨?_,fun g h=>?_⟩
    ·rw [List.map_cons]
     exact List.mem_cons_of_mem _ i1
    ·rw [List.map_cons] at h ⊢
     rcases List.mem_cons.mp h with e|e
     ·exact List.mem_cons.mpr (.inl e)
     ·exact List.mem_cons_of_mem _ (i2 g e)
theorem lU (f:Str) (v:V):∀ fs:List (Str×V),(iU f v fs).length≤fs.length+1
 |[]=>by simp [iU]
 | (k,x)::r=>by
   have ih:=lU f v r
   rw [show iU f v ((k,x)::r)=(if k=f then (k,v)::r else (k,x)::iU f v r) from rfl]
   by_cases hk:k=f
   ·rw [if_pos hk,List.length_cons,List.length_cons];omega
   ·rw [if_neg hk,List.length_cons,List.length_cons];omega
theorem jA.some_of (r:jA (some v) o):∃ u,o=some u/\RelV v u:=by
 cases o with
 |none=>exact (show False from r).elim
 |some u=>exact ⟨u,rfl,r⟩
theorem jA.none_of (r:jA none o):o=none:=by
 cases o with
 |none=>rfl
 |some u=>exact (show False from r).elim
theorem wX (r:RelV v u):PySem.W.handedIn u=true:=by
 cases v with
 |non=>cases (show u=Value.none from r);rfl
 |bl b=>cases (show u=Value.bool b from r);rfl
 |int i=>obtain ⟨t,e⟩:=(show ∃ t,u=Value.int i t from r);cases e;rfl
 |str x=>obtain ⟨t,e⟩:=(show ∃ t,u=Value.str x t from r);cases e;rfl
 |byt b=>obtain ⟨t,e⟩:=(show ∃ t,u=Value.bytes b t from r);cases e;rfl
 |flt b=>obtain ⟨t,e⟩:=(show ∃ t,u=Value.float b t from r);cases e;rfl
 |ref a=>cases (show u=Value.ref a from r);rfl
 |ty n=>cases (show u=Value.type n from r);rfl
theorem qm (hok:jK P w H h) (e:H a=some (.ins C dx fs)):∃ mA,ud h a dx C mA/\(∀ f,jA (fs.lookup f) (mA f))/\PySem.Within mA (fs.map (·.1))/\fs.length≤1000/\H dx=some (.own a):=by
 obtain ⟨d,z,ne,ob,mA,n,r,q⟩:=(show cX P w H h a (.ins C dx fs) from hok a _ e)
 exact ⟨mA,⟨ob,n,ne⟩,r,q,z,d⟩
structure Bo (K:PySem.W.Frag) (C:Addr):Prop where
 pg:PySem.W.plainGet K C Str.empty=true
 hd:PySem.W.hasDictIn K C=true
 po:PySem.W.plainOver K C=true
 sa:PySem.W.findIn K (.ref C) "__setattr__" = some (some (.builtin "object.__setattr__"))
theorem Bo.get {K:PySem.W.Frag} {C:Addr} (c:Bo K C) (f:Str):PySem.W.plainGet K C f=true:=c.pg
def j6 (K:PySem.W.Frag) (C:Addr) (f:Str):Prop:=PySem.W.findIn K (.ref C) f=some none
theorem j6.taker {K:PySem.W.Frag} {C:Addr} {f:Str} (n:j6 K C f):PySem.W.takerIn K C f=some none:=by
 unfold PySem.W.takerIn
 rw [show PySem.W.findIn K (.ref C) f=some none from n]
 rfl
structure Meth (K:PySem.W.Frag) (C:Addr) (m:Str) (f:Addr):Prop where
 at_:PySem.W.findIn K (.ref C) m=some (some (.ref f))
 fn:PySem.W.isFn K (.ref f)=true
 kp:PySem.W.keepIn K (.ref f)=true
section
variable {X:Cx} {Z:List (Addr×Obj)} {σ:St} {H:Hp} {s:Shared} {a C dx:Addr} {fs:List (Str×V)} {f:Str} {v:V} {A:Around} {E:Value->Shared->Prop}
theorem tE (I:Inv X Z σ H s) (e:H a=some (.ins C dx fs)) (c:Bo X.K C) (n:j6 X.K C f) (l:fs.lookup f=some v)
 (h:∀ u s',Inv X Z σ H s'->RelV v u->Q u s'):wpAny (model X.prog X.w) A (getAttr (.ref a) f b) Q E s:=by
 obtain ⟨mA,O,r,_,_,_⟩:=qm I.hok e
 obtain ⟨u,hu,ru⟩:=jA.some_of (v:=v) (o:=mA f) (by rw [← l];exact r f)
 exact Cd I.kIn O (c.get f) c.hd n hu (wX ru) (h u _ (I.tok _) ru)
theorem mV (I:Inv X Z σ H s) (e:H a=some (.ins C dx fs)) (c:Bo X.K C) (k:Meth X.K C m g) (l:fs.lookup m=none)
 (h:Q (.ref g,[.ref a]) s):wpAny (model X.prog X.w) A (getMethod (.ref a) m pl) Q E s:=by
 obtain ⟨mA,O,r,_,_,_⟩:=qm I.hok e
 have hn:mA m=none:=jA.none_of (by rw [← l];exact r m)
 exact yO I.kIn O (c.get m) k.at_ k.fn hn h
theorem uH (I:Inv X Z σ H s) (e:H a=some (.ins C dx fs)) (c:Bo X.K C) (n:j6 X.K C f) (hl:fs.length<1000) (ry:RelV y u)
 (h:∀ s',Inv X Z σ (upd H a (.ins C dx (iU f y fs))) s'->Q () s'):wpAny (model X.prog X.w) A (setAttr (.ref a) f u) Q E s:=by
 obtain ⟨mA,O,r,wi,_,ho⟩:=qm I.hok e
 have hz:(fs.map (·.1)).length≤sizeLine:=by rw [List.length_map,sizeLine_eq];omega
 refine Bu I.kIn O c.sa c.po n.taker c.hd wi hz fun h' O' sb=>h _ ?_
 have hd:∃ o,h'.get? dx=some o:=let ⟨o,_,_,e',_⟩:=O'.ns;⟨o,e'⟩
 refine I.write (x:=a) (e:=dx) (by rw [e];exact True.intro) (.inr ho) (fun b q hb z=>(sb.2 b hb).trans z) hd ?_
 refine ⟨by rw [aH O.ne];exact ho,?_,O.ne,O'.obj,_,O'.ns,fun g=>?_,fun g hg=>?_⟩
 ·have:=lU f y fs;omega
 ·show jA ((iU f y fs).lookup g) (if g=f then some u else mA g)
  rw [dC]
  by_cases q:g=f
  ·rw [if_pos q,if_pos q];exact ry
  ·rw [if_neg q,if_neg q];exact r g
 ·by_cases q:g=f
  ·rw [q];exact (lF f y fs).1
  ·refine (lF f y fs).2 g (wi g fun z=>hg ?_)
   show (if g=f then some u else mA g)=none
   rw [if_neg q];exact z
theorem Inv.made (I:Inv X Z σ H s):Inv X Z σ (upd (upd H s.heap.objs.size (.own (s.heap.objs.size+1))) (s.heap.objs.size+1) (.ins C s.heap.objs.size []))
 { s with heap:=(s.heap.push PySem.W.emptyDict).push (PySem.W.instObj C s.heap.objs.size) }:=by
 have e1:(s.heap.push PySem.W.emptyDict).get? s.heap.objs.size=some PySem.W.emptyDict:=Heap.get?_push_size s.heap rfl
 have e2:((s.heap.push PySem.W.emptyDict).push (PySem.W.instObj C s.heap.objs.size)).get? (s.heap.objs.size+1)=some (PySem.W.instObj C s.heap.objs.size):=by
  have:=Heap.get?_push_size (s.heap.push PySem.W.emptyDict) (o:=PySem.W.instObj C s.heap.objs.size) rfl
  rwa [Heap.size_push] at this
 have e3:(s.heap.push PySem.W.emptyDict).Ns s.heap.objs.size (fun _=>none):=⟨PySem.W.emptyDict,#[],_,e1,rfl,(fun e he=>absurd he (by simp)),fun _=>rfl⟩
 have I1:=I.laid (a:=s.heap.objs.size) (o:=.own (s.heap.objs.size+1)) (h':=s.heap.push PySem.W.emptyDict) (t':=s.toks) (fun b u q=>Heap.get?_push_of_some _ q) (Nat.le_refl _) ⟨_,e1⟩
 refine I1.laid (a:=s.heap.objs.size+1) (o:=.ins C s.heap.objs.size []) (t':=s.toks) (fun b u q=>Heap.get?_push_of_some _ q) (Nat.le_of_eq (Heap.size_push _ _)) ?_
 have ne:s.heap.objs.size≠s.heap.objs.size+1:=Nat.ne_of_lt (Nat.lt_succ_self _)
 refine ⟨by rw [aH ne,ao],Nat.zero_le _,ne,e2,fun _=>none,(Heap.Ns1.of_empty e3).at fun o q=>Heap.get?_push_of_some _ q,fun _=>True.intro,fun y hy=>absurd rfl hy⟩
theorem CT (hb:attributeBase e f env (eval e env)=eval e env)
 (h:wpAny (model prog w) A (eval e env) (fun o s₁=>wpAny (model prog w) A (getAttr o f true) Q E s₁) E s):wpAny (model prog w) A (eval (.Attribute e f pos) env) Q E s:=
 Attribute_any_ h (by rw [arm_eval_Attribute,hb])
end
def Wl (K:PySem.W.Frag) (ta:TE) (f:Str):TE:=fun σ H Q=>ta σ H fun x H1=>∃ a C dx fs v,x=.ref a/\H1 a=some (.ins C dx fs)/\Bo K C/\j6 K C f/\fs.lookup f=some v/\Q v H1
def Vz (K:PySem.W.Frag) (ta tv:TE) (f:Str):TS:=fun D σ H=>tv σ H fun y H1=>ta σ H1 fun x H2=>∃ a C dx fs,x=.ref a/\H2 a=some (.ins C dx fs)/\Bo K C/\j6 K C f/\fs.length<1000/\
 D.nx σ (upd H2 a (.ins C dx (iU f y fs)))
theorem nT {X:Cx} (he:PE X e ta) (hb:attributeBase e f X.env (eval e X.env)=eval e X.env):PE X (.Attribute e f pos) (Wl X.K ta f):=by
 intro Z s σ H Q I h
 refine CT hb (cz (he Z s σ H _ I h) fun u s1 ⟨x,H1,I1,rx,a,C,dx,fs,v,ex,ea,c,n,l,q⟩=>?_)
 subst ex
 obtain rfl:u=Value.ref a:=rx
 exact tE I1 ea c n l fun u' s2 I2 ru=>⟨v,H1,I2,ru,q⟩
theorem Ab {X:Cx} {pos:Pos} (ha:PE X o ta) (hv:PE X value tv) (hs:swapsWith value (some (.Attribute o f pos')) pos.line X.env=pure false):PS X (.Assign [.Attribute o f pos'] value pos) (Vz X.K ta tv f):=by
 intro Z s σ H D I h
 refine plainObj_wpAny_Assign_Attribute (cz (hv Z s σ H _ I h) fun u s1 ⟨y,H1,I1,ry,q⟩=>cz (ha Z s1 σ H1 _ I1 q) fun ov s2 ⟨x,H2,I2,rx,a,C,dx,fs,ex,ea,c,n,l,q2⟩=>?_) hs
 subst ex
 obtain rfl:ov=Value.ref a:=rx
 exact uH I2 ea c n l ry fun s3 I3=>⟨σ,_,I3,q2⟩
theorem Gf {X:Cx} {pl:Sem Bool} {m:Str} {apos:Pos} {args:List Expr} {Z:List (Addr×Obj)} {s:Shared} {σ:St} {H:Hp} {Q:Value->Shared->Prop} {te:TE} (he:PE X e te) (I:Inv X Z σ H s)
 (h:te σ H fun x H1=>∃ a C dx fs g,x=.ref a/\H1 a=some (.ins C dx fs)/\Bo X.K C/\Meth X.K C m g/\fs.lookup m=none/\
  ∀ s1,Inv X Z σ H1 s1->wpAny (model X.prog X.w) X.A (callWith pos (.ref g) [.ref a] (backTo pos (starEach args X.env)) (backToKw pos (keywordEach [] X.env))) Q X.xe s1)
 (ht:eval (.Call (.Attribute e m apos) args [] pos) X.env=(do
  let ov ← eval e X.env
  standAt apos.atName
  let (f,first) ← holding [ov] (getMethod ov m pl)
  callWith pos f first (backTo pos (starEach args X.env)) (backToKw pos (keywordEach [] X.env)))) :
 wpAny (model X.prog X.w) X.A (eval (.Call (.Attribute e m apos) args [] pos) X.env) Q X.xe s:=by
 refine PySem.W.methodCall_KW (pl:=pl) (cz (he Z s σ H _ I h) fun u s1 ⟨x,H1,I1,rx,a,C,dx,fs,g,ex,ea,c,k,l,q⟩=>?_) ht
 subst ex
 obtain rfl:u=Value.ref a:=rx
 exact mV I1 ea c k l (q s1 I1)
structure bH (k:Nat) (A:Around):Prop where
 hd:A.handled=none
 dp:A.depth+3*k+5<recursionLimit
 un:A.units+16*k+200<cLine
 gd:A.guards=some []
theorem bH.mono (r:bH k A) (h:j≤k):bH j A:=⟨r.hd,by have:=r.dp;omega,by have:=r.un;omega,r.gd⟩
theorem bH.deeper (r:bH (k+1) A) (env:Env):bH k (A.deeper env):=
 ⟨r.hd,by have:=r.dp;show A.depth+1+3*k+5<_;omega,by have:=r.un;show A.units+3+16*k+200<_;omega,r.gd⟩
theorem ur {A:Around}:(A.under (.builtin "type.__call__" ⟨.ref C::us,kw⟩)).depth=A.depth+1:=by
 first|rfl|simp [Around.under,Code.weight,Code.isCreation,Code.isGuard,Code.isCaller,Code.frames,Code.isFrame,guardIds]
theorem uM {A:Around}:(A.under (.builtin "type.__call__" ⟨.ref C::us,kw⟩)).units=A.units+1:=by
 first|rfl|simp [Around.under,Code.cUnits,Code.frames,Code.isFrame]
theorem bH.make (r:bH (k+1) A) (C:Addr) (us:List Value) (kw:List (Str×Value)):bH k (A.under (.builtin "type.__call__" ⟨.ref C::us,kw⟩)):=
 ⟨r.hd,by have:=r.dp;rw [ur];omega,by have:=r.un;rw [uM];omega,by have:=r.gd;first|exact this|(simpa [Around.under] using this)⟩
theorem bH.depth (r:bH k A):A.depth<recursionLimit:=by have:=r.dp;omega
theorem bH.units (r:bH k A):A.units+64<cLine:=by have:=r.un;omega
def oE:TA:=fun _ H Q=>Q [] H
def v5 (ta:TE) (tr:TA):TA:=fun σ H Q=>ta σ H fun x H1=>tr σ H1 fun xs H2=>Q (x::xs) H2
theorem aj:PA X [] oE:=fun _ _ _ _ H Q I h=>Calls.spliced_nil ⟨[],H,I,.nil,h⟩
theorem aa {X:Cx} (ha:PE X e te) (hr:PA X es t) (hs:starEach (e::es) X.env=(false,eval e X.env)::starEach es X.env:=by rfl):PA X (e::es) (v5 te t):=by
 intro pos Z s σ H Q I h
 rw [hs]
 show wpAny _ _ (spliced ((false,eval e X.env)::backTo pos (starEach es X.env))) _ _ s
 refine Calls.spliced_cons (cz (ha Z s σ H _ I h) fun u s1 ⟨x,H1,I1,r1,q1⟩=>?_)
 exact cz (hr pos Z s1 σ H1 _ I1 q1) fun us s2 ⟨xs,H2,I2,r2,q2⟩=>⟨x::xs,H2,I2,.cons r1 r2,q2⟩
def U_ (t:TA):TE:=fun σ H Q=>t σ H fun xs H1=>xs.length≤sizeLine/\∀ p,H1 p=none->Q (.ref p) (upd H1 p (.tup xs))
def Vt (t:TA):TE:=fun σ H Q=>t σ H fun xs H1=>xs.length≤sizeLine/\∀ p,H1 p=none->Q (.ref p) (upd H1 p (.lst xs))
theorem bN {x1} (h:PA X es t):PE X (.Tuple es x1 pos) (U_ t):=by
 intro Z s σ H Q I hq
 refine wpAny_Tuple_spliced (cz (h pos Z s σ H _ I hq) fun us s1 ⟨xs,H1,I1,r,z,q⟩=>⟨by rw [← r.length];exact z,?_⟩)
 have hf:H1 s1.heap.objs.size=none:=I1.hok.fresh (Nat.le_refl _)
 refine ⟨.ref s1.heap.objs.size,upd H1 s1.heap.objs.size (.tup xs),I1.laid (t':=s1.toks) (fun b u e=>Heap.get?_push_of_some _ e) (Nat.le_refl _) ?_,rfl,q _ hf⟩
 exact ⟨z,us,r,⟨_,Heap.get?_push_size _ rfl,rfl,_,rfl⟩⟩
theorem bL (h:PA X es t):PE X (.List es pos) (Vt t):=by
 intro Z s σ H Q I hq
 refine wpAny_List_spliced (cz (h pos Z s σ H _ I hq) fun us s1 ⟨xs,H1,I1,r,z,q⟩=>⟨by rw [← r.length];exact z,?_⟩)
 have hf:H1 s1.heap.objs.size=none:=I1.hok.fresh (Nat.le_refl _)
 refine ⟨.ref s1.heap.objs.size,upd H1 s1.heap.objs.size (.lst xs),I1.laid (t':=s1.toks) (fun b u e=>Heap.get?_push_of_some _ e) (Nat.le_refl _) ?_,rfl,q _ hf⟩
 exact ⟨z,us,0,r,Heap.get?_push_size _ rfl⟩
abbrev Sp:=List V->Hp->VK->XK->Prop
abbrev Bv:=List Env->Hp->Shared->XK->Value->Shared->Prop
structure tR (P:Program) (w:World) (K:PySem.W.Frag) (mg:Str->Option Value) (base:Heap) (A:Around) (outer:List Env) (s:Shared) (H:Hp):Prop where
 frames:A.frames=some outer
 mod:Mod K mg base
 bs:∀ b o,base.get? b=some o->s.heap.get? b=some o/\H b=none
 bsz:base.objs.size≤s.heap.objs.size
 funs:s.heap.FunFrames base outer
 frf:∀ b∈frs outer,H b=none
 hok:jK P w H s.heap
 bare:AllBare s.gens
def CE (outer:List Env) (P:Program) (w:World) (H:Hp) (s:Shared) (Q:VK) (u:Value) (s':Shared):Prop:=
 ∃ v H',s'.os=s.os/\AllBare s'.gens/\Un (frs outer) [] H H' s.heap s'.heap/\jK P w H' s'.heap/\RelV v u/\Q v H'
def CR (CX:Bv) (outer:List Env) (P:Program) (w:World) (H:Hp) (s:Shared) (Q:VK) (E:XK) (r:Result) (s':Shared):Prop:=
 match r with
 |.ok (.ret u)=>CE outer P w H s Q u s'
 |.ok _=>False
 |.error e=>CX outer H s E e s'
structure aJ (P:Program) (w:World) (K:PySem.W.Frag) (mg:Str->Option Value) (base:Heap) (CX:Bv) (k:Nat) (f:Addr) (fd:FuncData) (ps:List Str) (sp:Sp):Prop where
 len:∀ vs H Q E,sp vs H Q E->vs.length=ps.length
 run:∀ (A:Around) (outer:List Env) (s:Shared) (H:Hp) (args:Args) (us:List Value) (vs:List V) (Q:VK) (E:XK),bH k A->tR P w K mg base A outer s H->BindsTo s fd args (ps.zip us)->Vals vs us->sp vs H Q E->
  codeAny (model P w) A (.call (.ref f) args) (CR CX outer P w H s Q E) s
theorem tR.make {P:Program} {w:World} {K:PySem.W.Frag} {mg:Str->Option Value} {base:Heap} {A:Around} {outer:List Env} {s:Shared} {H:Hp} (e:tR P w K mg base A outer s H) (C:Addr) (us:List Value) (kw:List (Str×Value)) :
 tR P w K mg base (A.under (.builtin "type.__call__" ⟨.ref C::us,kw⟩)) outer s H:=⟨by first|exact e.frames|(simpa [Around.under,Code.envs,Code.isFrame,pushEnvs] using e.frames),e.mod,e.bs,e.bsz,e.funs,e.frf,e.hok,e.bare⟩
theorem Inv.env0 (I:Inv X Z σ H s):tR X.prog X.w X.K X.mg X.base X.A X.stack s H:=
 ⟨I.ok.frames,I.ok.mod,I.bs,Nat.le_trans I.ok.bsz I.sz,I.stack,I.stkFree,I.hok,I.bare⟩
theorem Inv.after (I:Inv X Z σ H s) (h:CE X.stack X.prog X.w H s Q u s'):EP X Z σ Q u s':=by
 obtain ⟨v,H',os,bare,un,hok,r,q⟩:=h
 obtain ⟨hh,g,d,t,os'⟩:=s'
 obtain rfl:os'=s.os:=os
 exact ⟨v,H',I.call (h':=hh) (g':=g) (d':=d) (t':=t) (ch:=[]) un hok bare (fun b z=>absurd z (by simp)),r,q⟩
def Af (sp:Sp) (dvs:List V) (E:XK) (t:TA):TE:=fun σ H Q=>t σ H fun vs H1=>sp (vs++dvs) H1 Q E
def R4 (C:Addr) (m:Str) (sp:Sp) (dvs:List V) (E:XK) (ta:TE) (t:TA):TE:=fun σ H Q=>ta σ H fun x H1=>∃ a dx fs,x=.ref a/\H1 a=some (.ins C dx fs)/\fs.lookup m=none/\
 t σ H1 fun vs H2=>sp (x::(vs++dvs)) H2 Q E
def RK (C:Addr) (sp:Sp) (dvs:List V) (E:XK) (t:TA):TE:=fun σ H Q=>t σ H fun vs H1=>∀ x dx,H1 x=none->H1 dx=none->dx≠x->
 sp (.ref x::(vs++dvs)) (upd (upd H1 dx (.own x)) x (.ins C dx [])) (fun v H2=>v=.non/\Q (.ref x) H2) E
def Binds (K:PySem.W.Frag) (fd:FuncData) (ps:List Str) (ds:List Value):Prop:=
 ∀ (s:Shared) (us:List Value),K.In s.heap->(us++ds).length=ps.length->BindsTo s fd ⟨us,[]⟩ (ps.zip (us++ds))
theorem Binds.all {K:PySem.W.Frag} {fd:FuncData} {ps:List Str} (h:∀ us:List Value,us.length=ps.length->bindArgs fd ⟨us,[]⟩=pure (ps.zip us)):Binds K fd ps []:=fun s us _ hl=>by
 rw [List.append_nil] at hl ⊢
 exact .of_eq (h us hl)
def lE (CX:Bv) (X:Cx) (E:XK):Prop:=∀ (Z:List (Addr×Obj)) (σ:St) (H:Hp) (s:Shared) (e:Value) (s':Shared),Inv X Z σ H s->CX X.stack H s E e s'->X.xe e s'
section
variable {X:Cx} {CX:Bv} {k:Nat} {f C:Addr} {fd:FuncData} {ps:List Str} {sp:Sp} {dvs:List V} {ds:List Value} {E:XK} {x m:Str} {p pos apos:Pos} {e o:Expr} {es:List Expr} {ta:TE} {t:TA}
theorem Ac (F:aJ X.prog X.w X.K X.mg X.base CX k f fd ps sp) (hr:bH k X.A) (hb:Binds X.K fd ps ds) (hd:Vals dvs ds) (hx:lE CX X E)
 (I:Inv X Z σ H s) (r:Vals vs us) (h:sp (vs++dvs) H Q E):wpAny (model X.prog X.w) X.A (call (.ref f) us) (EP X Z σ Q) X.xe s:=by
 have r2:Vals (vs++dvs) (us++ds):=r.append hd
 have hl:(us++ds).length=ps.length:=by rw [← r2.length];exact F.len _ _ _ _ h
 refine wpAny_call (codeAny_mono (F.run X.A X.stack s H ⟨us,[]⟩ (us++ds) (vs++dvs) Q E hr I.env0 (hb s us I.kIn hl) r2 h) fun r s' hq=>?_)
 cases r with
 |error e=>exact hx Z σ H s e s' I hq
 | ok fl=>
   cases fl with
   |ret u=>exact I.after hq
   |next=>exact False.elim hq
   |brk=>exact False.elim hq
   |cont=>exact False.elim hq
theorem jh (F:aJ X.prog X.w X.K X.mg X.base CX k f fd ps sp) (hr:bH k X.A) (hg:Gl X x) (hm:X.mg x=some (.ref f)) (hk:PySem.W.keepIn X.K (.ref f)=true) (hb:Binds X.K fd ps ds) (hd:Vals dvs ds) (hx:lE CX X E)
 (ha:PA X (e::es) t) (hdb:(x == ("__debug__" : Str))=false:=by decide) (he:starEach (e::es) X.env=(false,eval e X.env)::starEach es X.env:=by rfl) (hpl:(backTo pos (starEach es X.env)).any (·.1)=false:=by rfl) :
 PE X (.Call (.Name x p) (e::es) [] pos) (Af sp dvs E t):=by
 intro Z s σ H Q I h
 refine wpAny_Call_Name_kw (q8 I hg hm ?_ hdb)
 refine PySem.W.callWith_K (h₀:=X.base) I.ok.mod.kin hk (cz (ha pos Z s σ H _ I h) fun us s1 ⟨vs,H1,I1,r,q⟩=>⟨I1.kIn,?_⟩) he hpl
 exact Ac F hr hb hd hx I1 r q
theorem qe {pl:Sem Bool} (he:PE X o ta) (c:Bo X.K C) (hm:Meth X.K C m f) (F:aJ X.prog X.w X.K X.mg X.base CX k f fd ps sp) (hr:bH k X.A) (hb:Binds X.K fd ps ds) (hd:Vals dvs ds) (hx:lE CX X E) (ha:PA X (e::es) t)
 (hst:starEach (e::es) X.env=(false,eval e X.env)::starEach es X.env:=by rfl) (hpl:(backTo pos (starEach es X.env)).any (·.1)=false:=by rfl)
 (ht:eval (.Call (.Attribute o m apos) (e::es) [] pos) X.env=(do
  let ov ← eval o X.env
  standAt apos.atName
  let (f,first) ← holding [ov] (getMethod ov m pl)
  callWith pos f first (backTo pos (starEach (e::es) X.env)) (backToKw pos (keywordEach [] X.env))):=by rfl) :
 PE X (.Call (.Attribute o m apos) (e::es) [] pos) (R4 C m sp dvs E ta t):=by
 intro Z s σ H Q I h
 refine PySem.W.methodCall_KW (pl:=pl) (cz (he Z s σ H _ I h) fun u s1 ⟨x,H1,I1,rx,a,dx,fs,ex,ea,l,q⟩=>?_) ht
 subst ex
 obtain rfl:u=Value.ref a:=rx
 refine mV I1 ea c hm l ?_
 refine PySem.W.callWith_K (first:=[.ref a]) (h₀:=X.base) I.ok.mod.kin hm.kp (cz (ha pos Z s1 σ H1 _ I1 q) fun us s2 ⟨vs,H2,I2,r,q2⟩=>⟨I2.kIn,?_⟩) hst hpl
 exact Ac (us:=.ref a::us) (vs:=.ref a::vs) F hr hb hd hx I2 (.cons rfl r) q2
structure Mk (K:PySem.W.Frag) (C f:Addr):Prop where
 makes:PySem.W.makesIn K C=true
 init:PySem.W.findIn K (.ref C) "__init__" = some (some (.ref f))
 fn:PySem.W.isFn K (.ref f)=true
 kp:PySem.W.keepIn K (.ref C)=true
theorem Ar (M:Mk X.K C f) (F:aJ X.prog X.w X.K X.mg X.base CX k f fd ps sp) (hr:bH (k+1) X.A) (hb:Binds X.K fd ps ds) (hd:Vals dvs ds)
 (hx:lE CX X E) (I:Inv X Z σ H s) (r:Vals vs us)
 (h:∀ x dx,H x=none->H dx=none->dx≠x->sp (.ref x::(vs++dvs)) (upd (upd H dx (.own x)) x (.ins C dx [])) (fun v H2=>v=.non/\Q (.ref x) H2) E) :
 wpAny (model X.prog X.w) X.A (call (.ref C) us) (EP X Z σ Q) X.xe s:=by
 have hq:=h (s.heap.objs.size+1) s.heap.objs.size (I.hok.fresh (Nat.le_succ _)) (I.hok.fresh (Nat.le_refl _)) (Nat.ne_of_lt (Nat.lt_succ_self _))
 have I2:=Inv.made (C:=C) I
 have r2:Vals (V.ref (s.heap.objs.size+1)::(vs++dvs)) (Value.ref (s.heap.objs.size+1)::(us++ds)):=.cons rfl (r.append hd)
 have hl:(Value.ref (s.heap.objs.size+1)::us++ds).length=ps.length:=by
  have e:=r2.length
  rw [F.len _ _ _ _ hq] at e
  exact e.symm
 refine wpAny_call (Ae (f:=f) I.kIn M.makes M.init (beq_iff_eq.mp M.fn) (codeAny_mono (F.run _ X.stack _ _ ⟨Value.ref (s.heap.objs.size+1)::us,[]⟩ (Value.ref (s.heap.objs.size+1)::(us++ds)) _ _ E (hr.make C us [])
  (I2.env0.make C us []) (hb _ (Value.ref (s.heap.objs.size+1)::us) I2.kIn hl) r2 hq) fun r s' hq'=>?_))
 cases r with
 |error e=>exact hx Z σ _ _ e s' I2 hq'
 | ok fl=>
   cases fl with
   | ret u=>
     obtain ⟨v,H',I3,rv,ev,q3⟩:=I2.after hq'
     subst ev
     exact ⟨rv,⟨V.ref (s.heap.objs.size+1),H',I3,rfl,q3⟩⟩
   |next=>exact False.elim hq'
   |brk=>exact False.elim hq'
   |cont=>exact False.elim hq'
theorem Dw (M:Mk X.K C f) (F:aJ X.prog X.w X.K X.mg X.base CX k f fd ps sp) (hr:bH (k+1) X.A) (hg:Gl X x) (hm:X.mg x=some (.ref C)) (hb:Binds X.K fd ps ds) (hd:Vals dvs ds) (hx:lE CX X E)
 (ha:PA X (e::es) t) (hdb:(x == ("__debug__" : Str))=false:=by decide) (he:starEach (e::es) X.env=(false,eval e X.env)::starEach es X.env:=by rfl) (hpl:(backTo pos (starEach es X.env)).any (·.1)=false:=by rfl) :
 PE X (.Call (.Name x p) (e::es) [] pos) (RK C sp dvs E t):=by
 intro Z s σ H Q I h
 refine wpAny_Call_Name_kw (q8 I hg hm ?_ hdb)
 refine PySem.W.callWith_K (h₀:=X.base) I.ok.mod.kin M.kp (cz (ha pos Z s σ H _ I h) fun us s1 ⟨vs,H1,I1,r,q⟩=>⟨I1.kIn,?_⟩) he hpl
 exact Ar M F hr hb hd hx I1 r q
end
structure aN (N P:List Str) (sc:Scope):Prop where
 kind:sc.kind=.function
 co:sc.isCoroutine=false
 gen:sc.isGenerator=false
 nd:N.Nodup
 pre:N.take P.length=P
 par:∀ x∈P,sc.names.lookup x=some .local∨sc.names.lookup x=some .cell
 nofree:∀ y∈sc.names,y.2≠.free
theorem pJ {kindOf:Str->Option NameKind} {x:Str}:∀ {binds:List (Str×Value)} {m:Str->Option Value},(∀ v,(x,v)∉binds)->bindL kindOf binds m x=m x
 |[],_,_=>rfl
 | (n,v)::r,m,h=>by
   unfold bindL
   rw [pJ fun w hw=>h w (List.mem_cons_of_mem _ hw)]
   split
   ·have:x≠n:=by rintro rfl;exact h v List.mem_cons_self
    simp [this]
   ·rfl
theorem oU {kindOf:Str->Option NameKind} {x:Str}:∀ {binds:List (Str×Value)} {m:Str->Option Value},(∀ v,(x,v)∉binds)->bindC kindOf binds m x=m x
 |[],_,_=>rfl
 | (n,v)::r,m,h=>by
   unfold bindC
   rw [oU fun w hw=>h w (List.mem_cons_of_mem _ hw)]
   split
   ·rfl
   ·have:x≠n:=by rintro rfl;exact h v List.mem_cons_self
    simp [this]
theorem pH {kindOf:Str->Option NameKind}:∀ {P:List Str} {vs:List Value} {i:Nat} {m:Str->Option Value},P.Nodup->P[i]?=some x->vs[i]?=some v->kindOf x=some .local->
 bindL kindOf (P.zip vs) m x=some v
 |[],_,_,_,_,h,_,_=>by simp at h
 |_::_,[],_,_,_,_,h,_=>by simp at h
 | p::P,w::vs,0,m,nd,h1,h2,hk=>by
   simp at h1 h2;subst h1;subst h2
   show bindL kindOf ((p,w)::P.zip vs) m p=_
   unfold bindL
   rw [pJ fun v hv=>(List.nodup_cons.mp nd).1 (List.of_mem_zip hv).1,if_pos hk]
   simp
 | p::P,w::vs,i+1,m,nd,h1,h2,hk=>by
   show bindL kindOf ((p,w)::P.zip vs) m x=_
   unfold bindL
   exact pH (i:=i) (List.nodup_cons.mp nd).2 (by simpa using h1) (by simpa using h2) hk
theorem oG {kindOf:Str->Option NameKind}:∀ {P:List Str} {vs:List Value} {i:Nat} {m:Str->Option Value},P.Nodup->P[i]?=some x->vs[i]?=some v->kindOf x≠some .local->
 bindC kindOf (P.zip vs) m x=some v
 |[],_,_,_,_,h,_,_=>by simp at h
 |_::_,[],_,_,_,_,h,_=>by simp at h
 | p::P,w::vs,0,m,nd,h1,h2,hk=>by
   simp at h1 h2;subst h1;subst h2
   show bindC kindOf ((p,w)::P.zip vs) m p=_
   unfold bindC
   rw [oU fun v hv=>(List.nodup_cons.mp nd).1 (List.of_mem_zip hv).1,if_neg hk]
   simp
 | p::P,w::vs,i+1,m,nd,h1,h2,hk=>by
   show bindC kindOf ((p,w)::P.zip vs) m x=_
   unfold bindC
   exact oG (i:=i) (List.nodup_cons.mp nd).2 (by simpa using h1) (by simpa using h2) hk
def start (N:List Str) (vs:List V):St:=vs.map some++List.replicate (N.length-vs.length) none
def uL (CX:Bv) (P:Program) (w:World) (K:PySem.W.Frag) (mg:Str->Option Value) (base:Heap) (N:List Str) (qual:Str) (scope:Scope) (f:Addr) (cd:Value) (A:Around) (outer:List Env) (s:Shared) (H:Hp) (E:XK):Cx where
 prog:=P
 w:=w
 K:=K
 mg:=mg
 base:=base
 A:=A.deeper (envOfC qual scope s.heap.objs.size f cd)
 N:=N
 s₀:=s
 H₀:=H
 env:=envOfC qual scope s.heap.objs.size f cd
 outer:=outer
 stack:=envOfC qual scope s.heap.objs.size f cd::outer
 ex:=[]
 calm:=true
 fn:=fun _=>true
 pn:=[]
 xe:=fun e s'=>wpAny (model P w) (A.deeper (envOfC qual scope s.heap.objs.size f cd)) (leaving (envOfC qual scope s.heap.objs.size f cd) e) (fun _ s''=>CX outer H s E e s'') (fun e' s''=>CX outer H s E e' s'') s'
theorem rO {sc:Scope} (h:sc.names.lookup x=some .cell):∃ c,(cellsFrom n sc.names []).lookup x=some c:=by
 have q:=PySem.W.cellsFrom_some sc.names n [] (.inl h)
 exact Option.isSome_iff_exists.mp q
theorem xj {CX:Bv} {P:Program} {w:World} {K:PySem.W.Frag} {mg:Str->Option Value} {base:Heap} {N ps:List Str} {qual:Str} {scope:Scope} {f:Addr} {cd:Value} {A:Around} {outer:List Env} {s s1:Shared} {H:Hp} {E:XK} {us:List Value} {vs:List V}
 (S:aN N ps scope) (hd:A.handled=none) (e0:tR P w K mg base A outer s H) (hl:vs.length=ps.length) (r:Vals vs us)
 (x:InCallC s s.heap.objs.size (bindL (envOfC qual scope s.heap.objs.size f cd).kindOf (ps.zip us) fun _=>none) (cellsFrom (s.heap.objs.size+1) scope.names []) (bindC (envOfC qual scope s.heap.objs.size f cd).kindOf (ps.zip us) fun _=>none) s1) :
 Inv (uL CX P w K mg base N qual scope f cd A outer s H E) [] (start N vs) H s1:=by
 have hpl:ps.length≤N.length:=by have:=congrArg List.length S.pre;rw [List.length_take] at this;omega
 obtain ⟨h1,tk,rfl,hk⟩:=x.done
 have noA:∀ b:Addr,b∉(uL CX P w K mg base N qual scope f cd A outer s H E).ex:=fun b z=>absurd (show b∈([]:List Addr) from z) (by simp)
 refine ⟨⟨e0.mod,S.kind,rfl,rfl,Nat.le_refl _,fun y z c h1 h2=>?_,fun y hy=>?_,fun y c _ h=>?_,fun _=>hd,Around.frames_deeper e0.frames,.inr ⟨rfl,rfl⟩,fun b z=>absurd z (noA b),e0.bs,e0.bsz,fun b _ _=>noA b,fun b z=>absurd z (noA b),e0.funs,e0.frf⟩,
  rfl,e0.bare,Un.kept hk,⟨_,x.toInCall.ns,fun i y v h1 h2 h3=>?_⟩,fun y c h=>⟨_,x.cell y c h⟩,e0.hok.fresh (Nat.le_refl _),fun y c h=>?_,fun p hp=>absurd (show p∈([]:List (Addr×Obj)) from hp) (by simp),e0.hok.kept hk,?_⟩
 ·exact name_of_addr x.apart (PySem.mem_of_lookup h1) (PySem.mem_of_lookup h2)
 ·have hy:scope.names.lookup y=some .cell∨scope.names.lookup y=some .free:=hy
  rcases hy with hy|hy
  ·exact rO hy
  ·exact absurd rfl (S.nofree _ (PySem.mem_of_lookup hy))
 ·exact Nat.le_of_lt (x.above y c (PySem.mem_of_lookup h))
 ·have hi:i<vs.length:=by
   unfold start at h2
   by_cases hi:i<vs.length
   ·exact hi
   ·rw [List.getElem?_append_right (by simpa using hi)] at h2
    rw [List.getElem?_replicate] at h2
    split at h2 <;> cases h2
  have ha:vs[i]?=some v:=by
   unfold start at h2
   rw [List.getElem?_append_left (by simpa using hi),List.getElem?_map] at h2
   cases e:vs[i]? with
   |none=>rw [e] at h2;cases h2
   |some a=>rw [e] at h2;cases h2;rfl
  obtain ⟨u,hu,rv⟩:=r.get ha
  have hp:ps[i]?=some y:=by
   rw [← S.pre,List.getElem?_take_of_lt (by omega)];exact h1
  have ndP:ps.Nodup:=by rw [← S.pre];exact S.nd.sublist (List.take_sublist _ _)
  refine ⟨u,rv,?_⟩
  rcases S.par y (List.mem_of_getElem? hp) with k|k
  ·exact .inl ⟨k,pH ndP hp hu k⟩
  ·obtain ⟨c,e⟩:=rO (n:=s.heap.objs.size+1) k
   refine .inr ⟨.inl k,c,e,?_⟩
   have q:=x.cell y c e
   rw [oG ndP hp hu (by show scope.names.lookup y≠_;rw [k];decide)] at q
   exact q
 ·exact e0.hok.fresh (Nat.le_of_lt (x.above y c (PySem.mem_of_lookup h)))
 ·unfold start
  show _=N.length
  rw [List.length_append,List.length_map,List.length_replicate]
  omega
theorem FP {CX:Bv} {P:Program} {w:World} {K:PySem.W.Frag} {mg:Str->Option Value} {base:Heap} {k:Nat} {f:Addr} {name qual:Str} {params:Arguments} {body:List Stmt} {scope:Scope} {dV kV doc pm cdv ct oc:Value} {an od:Option Addr}
 {osl:Array (Option Value)} {N ps:List Str} {sp:Sp} (lk:K.lookup f=some ⟨oc,od,.func (PySem.W.fnOf name qual params body scope dV kV doc pm an cdv ct),osl⟩) (hcd:PySem.W.codeIn K cdv qual=true) (S:aN N ps scope)
 (len:∀ vs H Q E,sp vs H Q E->vs.length=ps.length)
 (hbody:∀ (A:Around) (outer:List Env) (s:Shared) (H:Hp) (vs:List V) (Q:VK) (E:XK),bH k (A.deeper (envOfC qual scope s.heap.objs.size f cdv))->sp vs H Q E->
  ∃ t,u_ (uL CX P w K mg base N qual scope f cdv A outer s H E) body t/\t { nx:=fun _ H'=>Q .non H',rt:=Q } (start N vs) H) :
 aJ P w K mg base CX (k+1) f (PySem.W.fnOf name qual params body scope dV kV doc pm an cdv ct) ps sp:=by
 refine ⟨len,fun A outer s H args us vs Q E hr e0 hb r hsp=>?_⟩
 have hl:=len _ _ _ _ hsp
 have KX:K.In s.heap:=e0.mod.kin.keeps fun b o e=>(e0.bs b o e).1
 have lim:s.heap.NoLimit:=e0.mod.nolimit.keeps fun b o e=>(e0.bs b o e).1
 have hkind:∀ y∈ps.zip us,scope.names.lookup y.1=some .local∨(scope.names.lookup y.1=some .cell/\((cellsFrom (s.heap.objs.size+1) scope.names []).lookup y.1).isSome=true):=fun ⟨n,v⟩ hy=>by
  rcases S.par n (List.of_mem_zip hy).1 with q|q
  ·exact .inl q
  ·exact .inr ⟨q,PySem.W.cellsFrom_some _ _ _ (.inl q)⟩
 refine codeAny_call_function hr.depth (KX _ _ lk) rfl S.co S.gen rfl (PySem.W.codeRec_of KX hcd) (hb _ _ _ _ ?_)
 refine wpAny_newFunctionEnv_cells S.kind hkind fun env he s1 x=>?_
 subst he
 refine ⟨lim.keeps x.toInCall.keep,codeAny_func ?_⟩
 obtain ⟨t,ht,hq⟩:=hbody A outer s H vs Q E (hr.deeper _) hsp
 have I:Inv (uL CX P w K mg base N qual scope f cdv A outer s H E) [] (start N vs) H s1:=xj S hr.hd e0 hl r x
 refine wpAny_mono (ht [] s1 (start N vs) H _ I hq) (fun fl s' hs=>?_) fun e s' hs=>hs
 have fin:∀ {σ':St} {H':Hp} {v:V} {u:Value},Inv (uL CX P w K mg base N qual scope f cdv A outer s H E) [] σ' H' s'->RelV v u->Q v H'->CE outer P w H s Q u s':=
  fun {σ' H' v u} J rv q=>⟨v,H',J.os,J.bare,J.base,J.hok,rv,q⟩
 cases fl with
 | ret u=>
   obtain ⟨v,σ',H',J,rv,q⟩:=hs
   exact fin J rv q
 | next=>
   obtain ⟨σ',H',J,q⟩:=hs
   exact fin (v:=V.non) (u:=Value.none) J rfl q
 | brk=>
   obtain ⟨_,_,_,q⟩:=hs
   exact False.elim q
 | cont=>
   obtain ⟨_,_,_,q⟩:=hs
   exact False.elim q
section
variable {X:Cx} {x:Str} {p pos:Pos} {e:Expr} {es:List Expr} {t:TA} {id T:String} {r:List V->Hp->VK->Prop}
def WK (r:List V->Hp->VK->Prop) (t:TA):TE:=fun σ H Q=>t σ H fun vs H1=>r vs H1 Q
theorem aP (hc:gF X (.builtin id) r) (hg:Gl X x) (hm:X.mg x=none) (hv:bootBuiltins x=some (.builtin id)) (ha:PA X (e::es) t) (hn:x ≠ "__name__":=by decide) (hdb:(x == ("__debug__" : Str))=false:=by decide)
 (he:starEach (e::es) X.env=(false,eval e X.env)::starEach es X.env:=by rfl) (hpl:(backTo pos (starEach es X.env)).any (·.1)=false:=by rfl):PE X (.Call (.Name x p) (e::es) [] pos) (WK r t):=by
 intro Z s σ H Q I h
 refine wpAny_Call_Name_kw (eU I hg hm hv ?_ hn hdb)
 exact PyProof.Rows.callWith_builtin1 (cz (ha pos Z s σ H _ I h) fun us s1 ⟨vs,H1,I1,r1,q1⟩=>hc Z s1 σ H1 vs us Q I1 r1 q1) he hpl
theorem eG (hc:gF X (.type T) r) (hg:Gl X x) (hm:X.mg x=none) (hv:bootBuiltins x=some (.type T)) (ha:PA X (e::es) t) (hn:x ≠ "__name__":=by decide) (hdb:(x == ("__debug__" : Str))=false:=by decide)
 (he:starEach (e::es) X.env=(false,eval e X.env)::starEach es X.env:=by rfl) (hpl:(backTo pos (starEach es X.env)).any (·.1)=false:=by rfl):PE X (.Call (.Name x p) (e::es) [] pos) (WK r t):=by
 intro Z s σ H Q I h
 refine wpAny_Call_Name_kw (eU I hg hm hv ?_ hn hdb)
 exact PyProof.Rows.callWith_type1 (cz (ha pos Z s σ H _ I h) fun us s1 ⟨vs,H1,I1,r1,q1⟩=>hc Z s1 σ H1 vs us Q I1 r1 q1) he hpl
end
end L2
namespace HT
open PySem PyProof.Rows
section
open PySem.SeqAt
open PySem.AutoSeq1 (wpAny_loadPart')
open PySem.MeetsSeq PySem.MeetsSeq2 PySem.MeetsSeq3
end
section
variable {prog:Program} {w:World} {A:Around} {E:Value->Shared->Prop} {s:Shared}
theorem CQ (ht:IsTup s.heap t vs.toArray) (hb:IsTup s.heap b ws.toArray) (hv:vs≠[])
 (h1:ws=[]->Q (.ref t) s) (h2:ws≠[]->Q (.ref s.heap.objs.size) { s with heap:=s.heap.push { cls:=.type "tuple",data:=.seq (vs++ws).toArray } })
 (hsz:vs.length+ws.length≤sizeLine):wpAny (model prog w) A (binaryOp .Add (.ref t) (.ref b)) Q E s:=by
 obtain ⟨⟨cls,dd,data,sl⟩,ho,hc,n,hd⟩:=id ht
 obtain ⟨⟨cls2,dd2,data2,sl2⟩,ho2,hc2,n2,hd2⟩:=id hb
 simp only at hc hd hc2 hd2
 subst hc hd hc2 hd2
 have e:vs.toArray++ws.toArray=(vs++ws).toArray:=by simp
 by_cases hw:ws=[]
 ·exact concat_meets ⟨_,ho,rfl⟩ ⟨_,ho2,rfl⟩ noFill_tuple_add seq_tuple_add PySem.F.slot_tuple_add PySem.F.entry_tuple_add (PySem.F.args_tuple_add_2 _ _)
   (tuple_addW1 t b vs.toArray ws.toArray n n2 dd dd2 sl sl2 (by simpa using hv) (by simp [hw])) ⟨ho,ho2,h1 hw⟩
 ·refine concat_meets ⟨_,ho,rfl⟩ ⟨_,ho2,rfl⟩ noFill_tuple_add seq_tuple_add PySem.F.slot_tuple_add PySem.F.entry_tuple_add (PySem.F.args_tuple_add_2 _ _)
   (tuple_addW2 t b vs.toArray ws.toArray n n2 dd dd2 sl sl2 (by simpa using hv) (by simpa using hw) (by rw [List.size_toArray,List.size_toArray];exact hsz)) ⟨ho,ho2,?_⟩
  rw [e]
  exact h2 hw
def eF (n d:Nat):Option Int->Nat
 |none=>d
 |some v=>if v<0 then (v+(n:Int)).toNat else min v.toNat n
theorem yE (n d:Nat):eF n d none=d:=rfl
theorem Dt (n d k:Nat):eF n d (some (k:Int))=min k n:=by
 show (if (k:Int)<0 then ((k:Int)+(n:Int)).toNat else min (k:Int).toNat n)=min k n
 rw [if_neg (by omega),Int.toNat_natCast]
theorem Ih (n d:Nat) (hd:d≤n) (o:Option Int):eF n d o≤n:=by
 cases o with
 |none=>exact hd
 | some v=>
   show (if v<0 then (v+(n:Int)).toNat else min v.toNat n)≤n
   by_cases hv:v<0
   ·rw [if_pos hv];omega
   ·rw [if_neg hv];exact Nat.min_le_right _ _
theorem uV (v:Int) (n d:Nat):(if v<0 then max (v+(n:Int)) 0 else min v (n:Int))=((eF n d (some v):Nat):Int):=by
 show (if v<0 then max (v+(n:Int)) 0 else min v (n:Int))=(((if v<0 then (v+(n:Int)).toNat else min v.toNat n):Nat):Int)
 by_cases hv:v<0
 ·simp only [if_pos hv];omega
 ·simp only [if_neg hv];omega
theorem sZ (lo hi:Option Int) (n:Nat):Builtin.Slice.sliceAdjust lo hi 1 (n:Int)=(((eF n 0 lo:Nat):Int),((eF n n hi:Nat):Int)):=by
 have h1:¬ ((1:Int)<0):=by omega
 unfold Builtin.Slice.sliceAdjust
 simp only [h1,if_false]
 refine Prod.ext ?_ ?_
 ·cases lo with
  |none=>rfl
  |some v=>exact uV v n 0
 ·cases hi with
  |none=>rfl
  |some v=>exact uV v n n
theorem uh (i j:Nat):Builtin.Slice.slicePlaces (i:Int) (j:Int) 1=j-i:=by
 unfold Builtin.Slice.slicePlaces
 have h1:(1:Int) > 0:=by omega
 simp only [h1,if_true,Int.ediv_one]
 split <;> omega
theorem mL (p:IsPart v o) (h:Q o s):wpAny (model prog w) A (Builtin.Slice.slicePartIndex v) Q E s:=by
 cases p with
 |none=>exact slicePart_none h
 |int i t=>exact slicePart_int h
theorem h_ {sl:Addr} {vl vu:Value} {lo hi:Option Int} {n:Nat} {Q:Int×Int×Nat->Shared->Prop} (hs:s.heap.IsSliceOf sl vl vu .none) (pl:IsPart vl lo) (pu:IsPart vu hi)
 (h:Q (((eF n 0 lo:Nat):Int),1,eF n n hi-eF n 0 lo) s):wpAny (model prog w) A (Builtin.Slice.sliceApplied (.ref sl) (pure (n:Int))) Q E s:=by
 obtain ⟨os,hos,hcs,hds⟩:=id hs
 unfold Builtin.Slice.sliceApplied Builtin.Slice.sliceFields
 refine wpAny_bind (wpAny_bind (wpAny_field hos hds (x:=vl) rfl (wpAny_bind (wpAny_field hos hds (x:=vu) rfl (wpAny_bind (wpAny_field hos hds (x:=.none) rfl (wpAny_pure ?_)))))))
 refine wpAny_bind (slicePart_none ?_)
 show wpAny _ _ (if ((1:Int) == 0)=true then _ else _) _ _ s
 rw [if_neg (by decide)]
 refine wpAny_bind (mL pl (wpAny_bind (mL pu (wpAny_bind (wpAny_pure ?_)))))
 show wpAny _ _ (match Builtin.Slice.sliceAdjust lo hi 1 (n:Int) with|(lo,hi)=>pure (lo,(1:Int),Builtin.Slice.slicePlaces lo hi 1)) _ _ s
 rw [sZ lo hi n]
 show wpAny _ _ (pure (((eF n 0 lo:Nat):Int),(1:Int),Builtin.Slice.slicePlaces ((eF n 0 lo:Nat):Int) ((eF n n hi:Nat):Int) 1)) _ _ s
 rw [uh]
 exact wpAny_pure h
theorem yJ (xs:Array Value) (i k:Nat):((List.range k).filterMap fun (m:Nat)=>xs[((i:Int)+(m:Int)*1).toNat]?).toArray=((xs.toList.drop i).take k).toArray:=by
 have e:(fun (m:Nat)=>xs[((i:Int)+(m:Int)*1).toNat]?)=fun m=>xs[i+m]?:=by
  funext m
  have:((i:Int)+(m:Int)*1).toNat=i+m:=by omega
  rw [this]
 rw [e]
 have:=pick_run xs i k
 rw [List.filterMap_map] at this
 have e2:((fun x=>xs[x]?) ∘ fun x=>i+x)=fun m=>xs[i+m]?:=rfl
 rw [e2] at this
 rw [this]
theorem kZ {t sl:Addr} {items:Array Value} {vl vu:Value} {lo hi:Option Int} {Q:Value->Shared->Prop} (ht:IsTup s.heap t items) (hs:s.heap.IsSliceOf sl vl vu .none) (pl:IsPart vl lo) (pu:IsPart vu hi)
 (hw:¬ (eF items.size 0 lo=0/\eF items.size items.size hi=items.size))
 (h:Q (.ref s.heap.objs.size) { s with heap:=s.heap.push { cls:=.type "tuple",data:=.seq ((items.toList.drop (eF items.size 0 lo)).take (eF items.size items.size hi-eF items.size 0 lo)).toArray } })
 (hsz:items.size≤sizeLine):wpAny (model prog w) A (getItem (.ref t) (.ref sl)) Q E s:=by
 have htake:sizeOk (.seq ((items.toList.drop (eF items.size 0 lo)).take (eF items.size items.size hi-eF items.size 0 lo)).toArray):=by
  show ((items.toList.drop (eF items.size 0 lo)).take (eF items.size items.size hi-eF items.size 0 lo)).toArray.size≤sizeLine
  rw [List.size_toArray,List.length_take,List.length_drop,Array.length_toList]
  omega
 have hj:eF items.size items.size hi≤items.size:=Ih _ _ (Nat.le_refl _) hi
 obtain ⟨os,hos,hcs,hds⟩:=id hs
 have hTs:s.TypeIs (.ref sl) "slice":=⟨os,hos,hcs⟩
 unfold getItem
 try with_reducible refine wpAny_holding ?_
 first|refine wpAny_bind (wpAny_pure ?_)|skip
 refine wpAny_bind (wpAny_sequenceKey ht.typeIs (by decide) ?_)
 refine wpAny_bind (wpAny_callSpecial?_slot (name:=Str.ofString "__getitem__") ht.typeIs PyProof.Rows.slot_tuple_getitem
  (wpAny_call_entry PyProof.Rows.slot_tuple_getitem ht.typeIs entry_tuple_getitem ?_ (args_tuple_getitem _ _)))
 show wpAny _ _ (Builtin.Tuple.tupleItemsOf (.ref t) >>= _) _ _ s
 refine wpAny_bind (tupleItemsOf_ ht ?_)
 refine wpAny_bind (wpAny_typeOf hTs ?_)
 rw [if_pos (by decide)]
 refine wpAny_bind (h_ hs pl pu ?_)
 have hno:¬ ((((eF items.size 0 lo:Nat):Int) == 0 && (1:Int) == 1 && (eF items.size items.size hi-eF items.size 0 lo) == items.size)=true):=by
  intro q
  rw [Bool.and_eq_true,Bool.and_eq_true] at q
  have q1:((eF items.size 0 lo:Nat):Int)=0:=eq_of_beq q.1.1
  have q2:eF items.size items.size hi-eF items.size 0 lo=items.size:=eq_of_beq q.2
  exact hw ⟨by omega,by omega⟩
 show wpAny _ _ (if (((eF items.size 0 lo:Nat):Int) == 0 && (1:Int) == 1 && (eF items.size items.size hi-eF items.size 0 lo) == items.size)=true then _ else _) _ _ s
 rw [if_neg hno,yJ]
 first
  |exact wpAny_bind (m:=Builtin.Tuple.tupleExact _) (wpAny_newObj_type (wpAny_pure ⟨_,rfl,wpAny_pure h⟩) htake)
  |exact wpAny_bind (m:=Builtin.Tuple.tupleExact _) (wpAny_newObj_type (wpAny_bind (wpAny_pure (wpAny_pure ⟨_,rfl,wpAny_pure h⟩))) htake)
  |exact wpAny_bind (wpAny_bind (m:=Builtin.Tuple.tupleExact _) (wpAny_newObj_type (wpAny_pure (wpAny_pure ⟨_,rfl,wpAny_pure h⟩)) htake))
  |exact wpAny_bind (wpAny_bind (m:=Builtin.Tuple.tupleExact _) (wpAny_newObj_type (wpAny_pure ⟨_,rfl,wpAny_pure h⟩) htake))
end
end HT
namespace L2
open PySem PySem.Spec PyProof.Rows
abbrev TO:=St->Hp->(Option Int->Hp->Prop)->Prop
def PO (X:Cx) (e:Option Expr) (t:TO):Prop:=
 ∀ (Z:List (Addr×Obj)) (s:Shared) (σ:St) (H:Hp) (Q:Option Int->Hp->Prop),Inv X Z σ H s->t σ H Q->
   wpAny (model X.prog X.w) X.A (evalPart e X.env) (fun u s'=>∃ o H',Inv X Z σ H' s'/\IsPart u o/\Q o H') X.xe s
def Fw:TO:=fun _ H Q=>Q none H
def PN (t:TE):TO:=fun σ H Q=>t σ H fun x H1=>∃ i,x=.int i/\Q (some i) H1
section
variable {X:Cx} {e:Expr} {te:TE} {lo hi:Option Expr} {tl th:TO} {pos p2:Pos}
theorem g8:PO X none Fw:=by
 intro Z s σ H Q I h
 rw [evalPart_none]
 exact wpAny_pure ⟨none,H,I,.none,h⟩
theorem bV (h:PE X e te):PO X (some e) (PN te):=by
 intro Z s σ H Q I hw
 rw [evalPart_some]
 refine cz (h Z s σ H _ I hw) fun u s1 ⟨x,H1,I1,r1,q1⟩=>?_
 obtain ⟨i,rfl,q⟩:=q1
 obtain ⟨t,rfl⟩:=r1
 exact ⟨some i,H1,I1,.int i t,q⟩
def Nt (X:Cx) (r:V->Option Int->Option Int->Hp->VK->Prop):Prop:=
 ∀ (Z:List (Addr×Obj)) (s:Shared) (σ:St) (H:Hp) (x:V) (v vl vu:Value) (lo hi:Option Int) (sl:Addr) (Q:VK),Inv X Z σ H s->RelV x v->s.heap.IsSliceOf sl vl vu .none->IsPart vl lo->IsPart vu hi->r x lo hi H Q->
   ∃ T id,typeLookup (.type T) "__getitem__" = pure (some (.builtin id))/\s.TypeIs v T/\wpAny (model X.prog X.w) X.A (getItem v (.ref sl)) (EP X Z σ Q) X.xe s
def Xb (r:V->Option Int->Option Int->Hp->VK->Prop) (te:TE) (tl th:TO):TE:=fun σ H Q=>te σ H fun x H1=>tl σ H1 fun l H2=>th σ H2 fun u H3=>r x l u H3 Q
theorem cD {r:V->Option Int->Option Int->Hp->VK->Prop} (hr:Nt X r) (he:PE X e te) (hl:PO X lo tl) (hu:PO X hi th):PE X (.Subscript e (.Slice lo hi none p2) pos) (Xb r te tl th):=by
 intro Z s σ H Q I h
 refine Subscript_ (cz (he Z s σ H _ I h) fun v s1 ⟨x,H1,I1,r1,q1⟩=>?_)
 refine wpAny_Slice (cz (hl Z s1 σ H1 _ I1 q1) fun vl s2 ⟨l,H2,I2,pl,q2⟩=>cz (hu Z s2 σ H2 _ I2 q2) fun vu s3 ⟨u,H3,I3,pu,q3⟩=>?_)
 rw [evalPart_none]
 refine wpAny_pure ?_
 have I4:Inv X Z σ H3 { s3 with heap:=s3.heap.push { cls:=.type "slice",data:=.fields #[vl,vu,.none] } }:=I3.kept (t':=s3.toks) fun b ob q=>Heap.get?_push_of_some _ q
 obtain ⟨T,id,hT,ht,hg⟩:=hr Z { s3 with heap:=s3.heap.push { cls:=.type "slice",data:=.fields #[vl,vu,.none] } } σ H3 x v vl vu l u s3.heap.objs.size Q I4 r1 (Heap.IsSliceOf.new ..) pl pu q3
 show wpAny (model X.prog X.w) X.A (subscriptTail e (.Slice lo hi none p2) v (.ref s3.heap.objs.size)) (EP X Z σ Q) X.xe { s3 with heap:=s3.heap.push { cls:=.type "slice",data:=.fields #[vl,vu,.none] } }
 exact tail_any (ops:=[.ref s3.heap.objs.size,v]) ht hT hg (by with_unfolding_all rfl)
def jq (xs:List V) (lo hi:Option Int):List V:=(xs.drop (HT.eF xs.length 0 lo)).take (HT.eF xs.length xs.length hi-HT.eF xs.length 0 lo)
theorem lR (xs:List V) (lo hi:Option Int):(jq xs lo hi).length≤xs.length:=by
 unfold jq
 rw [List.length_take,List.length_drop]
 omega
def Wm (K:PySem.W.Frag):V->Option Int->Option Int->Hp->VK->Prop:=fun x lo hi H Q=>∃ a xs,x=.ref a/\bI K H a xs/\
 ¬ (HT.eF xs.length 0 lo=0/\HT.eF xs.length xs.length hi=xs.length)/\∀ p,H p=none->Q (.ref p) (upd H p (.tup (jq xs lo hi)))
theorem HR:Nt X (Wm X.K):=by
 intro Z s σ H x v vl vu lo hi sl Q I rx hs pl pu h
 obtain ⟨a,xs,rfl,hx,hw,q⟩:=h
 cases rx
 obtain ⟨its,r,ht,hz⟩:=I.tuple hx
 have hlen:its.toArray.size=xs.length:=by rw [List.size_toArray];exact r.length.symm
 refine ⟨"tuple",_,PyProof.Rows.slot_tuple_getitem.lookup,ht.typeIs,?_⟩
 refine HT.kZ ht hs pl pu (by rw [hlen];exact hw) ?_ (by rw [hlen];exact hz)
 rw [hlen]
 refine ⟨.ref s.heap.objs.size,_,I.laid (t':=s.toks) (o:=.tup (jq xs lo hi)) (fun b ob q=>Heap.get?_push_of_some _ q) (Nat.le_refl _) ?_,rfl,q _ (I.hok.fresh (Nat.le_refl _))⟩
 exact ⟨Nat.le_trans (lR xs lo hi) hz,_,(r.drop (HT.eF xs.length 0 lo)).take (HT.eF xs.length xs.length hi-HT.eF xs.length 0 lo),IsTup.new _ _⟩
def Mi (K:PySem.W.Frag):R2:=fun x y H Q=>∃ a b xs ys,x=.ref a/\y=.ref b/\bI K H a xs/\bI K H b ys/\xs≠[]/\xs.length+ys.length≤sizeLine/\
 (ys=[]->Q (.ref a) H)/\(ys≠[]->∀ p,H p=none->Q (.ref p) (upd H p (.tup (xs++ys))))
theorem Vals.nil_iff (r:Vals xs us):us=[]↔xs=[]:=by
 cases r with
 |nil=>simp
 |cons _ _=>simp
theorem Fx:iT X (binaryOp .Add) (Mi X.K):=by
 intro Z s σ H x y v u Q I rx ry h
 obtain ⟨a,b,xs,ys,rfl,rfl,ha,hb,hx,hz,q1,q2⟩:=h
 cases rx
 cases ry
 obtain ⟨its,r1,p1,_⟩:=I.tuple ha
 obtain ⟨its2,r2,p2,_⟩:=I.tuple hb
 refine HT.CQ p1 p2 (fun z=>hx (r1.nil_iff.mp z)) (fun z=>⟨.ref a,H,I,rfl,q1 (r2.nil_iff.mp z)⟩) (fun z=>?_) (by rw [← r1.length,← r2.length];exact hz)
 refine ⟨.ref s.heap.objs.size,_,I.laid (t':=s.toks) (o:=.tup (xs++ys)) (fun b ob q=>Heap.get?_push_of_some _ q) (Nat.le_refl _) ?_,rfl,q2 (fun w=>z (r2.nil_iff.mpr w)) _ (I.hok.fresh (Nat.le_refl _))⟩
 exact ⟨by rw [List.length_append];exact hz,_,r1.append r2,IsTup.new _ _⟩
end
def J9 (n:Nat) (i:Int):Option Nat:=if 0≤i then (if i<n then some i.toNat else none) else if -(n:Int)≤i then some (i+n).toNat else none
def qJ {α:Type} (xs:List α) (i:Int):Option α:=(J9 xs.length i).bind fun j=>xs[j]?
theorem Dp (h:J9 n i=some j):seqIndex? i n=some j/\j<n/\-(n:Int)≤i/\i<n:=by
 unfold J9 at h
 by_cases h0:0≤i
 ·rw [if_pos h0] at h
  by_cases h1:i<n
  ·rw [if_pos h1] at h
   have e:i.toNat=j:=Option.some.inj h
   exact ⟨by rw [seqIndex_of h0 h1,e],by omega,by omega,h1⟩
  ·rw [if_neg h1] at h;cases h
 ·rw [if_neg h0] at h
  by_cases h1:-(n:Int)≤i
  ·rw [if_pos h1] at h
   have e:(i+n).toNat=j:=Option.some.inj h
   exact ⟨by rw [seqIndex_neg (by omega) h1,e],by omega,h1,by omega⟩
  ·rw [if_neg h1] at h;cases h
theorem qp {α:Type} {xs:List α} {i:Int} {v:α} (h:qJ xs i=some v):∃ j,seqIndex? i xs.length=some j/\xs[j]?=some v/\j<xs.length/\-(xs.length:Int)≤i/\i<xs.length:=by
 unfold qJ at h
 cases e:J9 xs.length i with
 |none=>rw [e] at h;cases h
 | some j=>
   rw [e] at h
   obtain ⟨h1,h2,h3,h4⟩:=Dp e
   exact ⟨j,h1,h,h2,h3,h4⟩
theorem aL {α:Type} {xs:List α} {j:Nat} {v:α} (h:xs[j]?=some v):qJ xs (j:Int)=some v:=by
 have hj:j<xs.length:=(List.getElem?_eq_some_iff.mp h).1
 have e:J9 xs.length (j:Int)=some j:=by
  unfold J9
  rw [if_pos (by omega),if_pos (by omega)];simp
 unfold qJ;rw [e];exact h
def Fy (b:Expr):Prop:=∀ o i,subscripted b false o i=operate [o,i] (getItem o i)
def Bp (X:Cx) (r:R2):Prop:=
 ∀ (value slice:Expr) (Z:List (Addr×Obj)) (s:Shared) (σ:St) (H:Hp) (x y:V) (v u:Value) (Q:VK),Inv X Z σ H s->RelV x v->RelV y u->r x y H Q->
   subscripted slice false v u=operate [v,u] (getItem v u)->wpAny (model X.prog X.w) X.A (subscriptTail value slice v u) (EP X Z σ Q) X.xe s
def Kv (X:Cx) (id:String) (r:V->List V->Hp->VK->Prop):Prop:=
 ∀ (Z:List (Addr×Obj)) (s:Shared) (σ:St) (H:Hp) (x:V) (xs:List V) (v:Value) (us:List Value) (Q:VK),Inv X Z σ H s->RelV x v->Vals xs us->r x xs H Q->
   wpAny (model X.prog X.w) X.A (call (.builtin id) (v::us)) (EP X Z σ Q) X.xe s
theorem Bp.or (h:Bp X r) (h':Bp X r'):Bp X (fun x y H Q=>r x y H Q∨r' x y H Q):=by
 intro value slice Z s σ H x y v u Q I rx ry q hs
 rcases q with q|q
 ·exact h value slice Z s σ H x y v u Q I rx ry q hs
 ·exact h' value slice Z s σ H x y v u Q I rx ry q hs
theorem a_ (hr:Bp X r) (ha:PE X a ta) (hb:PE X b tb) (hs:Fy b):PE X (.Subscript a b pos) (Uk r ta tb):=by
 intro Z s σ H Q I h
 exact Subscript_ (LR ha hb I h fun v u s2 x y H2 I2 rx ry q=>hr a b Z s2 σ H2 x y v u Q I2 rx ry q (hs _ _))
def zq (K:PySem.W.Frag):R2:=fun x y H Q=>∃ p xs i v,x=.ref p/\y=.int i/\bD K H p xs/\qJ xs i=some v/\Q v H
def Hj (K:PySem.W.Frag):R2:=fun x y H Q=>∃ p xs i v,x=.ref p/\y=.int i/\bI K H p xs/\qJ xs i=some v/\Q v H
def Iu:R2:=fun x y H Q=>∃ z i c,x=.str z/\y=.int i/\z.length≤sizeLine/\qJ z.cps.toList i=some c/\Q (.str ⟨#[c]⟩) H
theorem d7 {X:Cx}:Bp X (zq X.K):=by
 intro value slice Z s σ H x y v u Q I rx ry h hs
 obtain ⟨p,xs,i,z,rfl,rfl,hq,he,q⟩:=h
 cases rx
 obtain ⟨t,rfl⟩:=ry
 obtain ⟨its,r,pl,hz⟩:=I.list hq
 obtain ⟨j,h1,h2,h3,h4,h5⟩:=qp he
 obtain ⟨w,ew,rw'⟩:=r.get h2
 have hl:=r.length
 have hn:=lH
 have fin:EP X Z σ Q w s:=⟨z,H,I,rw',q⟩
 by_cases h0:0≤i
 ·have hj:i.toNat=j:=by
   rw [seqIndex_of h0 h5] at h1
   exact Option.some.inj h1
  exact item_listR pl.isList h0 (by omega) (by rw [hj];simpa using ew) fin hs
 ·have hj:(i+(its.toArray.size:Int)).toNat=j:=by
   rw [seqIndex_neg (by omega) h4] at h1
   rw [List.size_toArray,← hl]
   exact Option.some.inj h1
  exact subscriptTail_builtinR (x:=w) pl.isList.typeIs slot_list_getitem.lookup
   (wpAny_getItem_list_neg (Q:=fun r s'=>r=w/\EP X Z σ Q r s') pl.isList (by omega) (by rw [List.size_toArray] <;> omega) (by omega) (by rw [hj];simpa using ew) ⟨rfl,fin⟩) hs
theorem bz {X:Cx}:Bp X (Hj X.K):=by
 intro value slice Z s σ H x y v u Q I rx ry h hs
 obtain ⟨p,xs,i,z,rfl,rfl,hq,he,q⟩:=h
 cases rx
 obtain ⟨t,rfl⟩:=ry
 obtain ⟨its,r,pl,hz⟩:=I.tuple hq
 obtain ⟨j,h1,h2,h3,h4,h5⟩:=qp he
 obtain ⟨w,ew,rw'⟩:=r.get h2
 have hl:=r.length
 have hn:=lH
 have fin:EP X Z σ Q w s:=⟨z,H,I,rw',q⟩
 exact subscriptTail_builtinR (x:=w) pl.typeIs slot_tuple_getitem.lookup
  (getItem_tuple (j:=j) (Q:=fun r s'=>r=w/\EP X Z σ Q r s') pl (by omega) (by omega) (by rw [List.size_toArray,← hl];exact h1) (by simpa using ew) ⟨rfl,fin⟩) hs
theorem mY:Bp X Iu:=by
 intro value slice Z s σ H x y v u Q I rx ry h hs
 obtain ⟨z,i,c,rfl,rfl,hz,he,q⟩:=h
 obtain ⟨t,rfl⟩:=rx
 obtain ⟨t',rfl⟩:=ry
 obtain ⟨j,h1,h2,h3,h4,h5⟩:=qp he
 have hl:z.cps.toList.length=z.length:=by simp [Str.length]
 rw [hl] at h1 h4 h5
 have hn:=lH
 exact tail_any (typeIs_str s z t) slot_str_getitem.lookup (getItem_str (c:=c) (by
  have e1:decide (i < -(2 ^ 63:Int))=false:=decide_eq_false (by omega)
  have e2:decide (i ≥ 2 ^ 63)=false:=decide_eq_false (by omega)
  rw [e1,e2,Bool.or_false]) (by rw [h1];simpa using h2) ⟨.str ⟨#[c]⟩,H,I.tok _,⟨_,rfl⟩,q⟩) hs
def Vn (K:PySem.W.Frag):R2:=fun x y H Q=>zq K x y H Q∨Hj K x y H Q∨Iu x y H Q
theorem A_:Bp X (Vn X.K):=d7.or (bz.or mY)
theorem qD (lo hi:Option Int) (n:Nat):(sliceBounds lo hi none n).1=((HT.eF n 0 lo:Nat):Int)/\(sliceBounds lo hi none n).2.1=((HT.eF n n hi:Nat):Int)/\(sliceBounds lo hi none n).2.2=1:=by
 refine ⟨?_,?_,rfl⟩
 ·cases lo with
  |none=>simp [sliceBounds,HT.eF]
  | some i=>
    simp only [sliceBounds,HT.eF,Option.getD_none,show (1:Int) > 0 by decide,if_true]
    by_cases h:i<0
    ·simp only [h,if_true] <;> omega
    ·simp only [h,if_false] <;> omega
 ·cases hi with
  |none=>simp [sliceBounds,HT.eF]
  | some i=>
    simp only [sliceBounds,HT.eF,Option.getD_none,show (1:Int) > 0 by decide,if_true]
    by_cases h:i<0
    ·simp only [h,if_true] <;> omega
    ·simp only [h,if_false] <;> omega
theorem nY (its:List Value) (lo hi:Option Int):slicePick its.toArray lo hi none=((its.drop (HT.eF its.length 0 lo)).take (HT.eF its.length its.length hi-HT.eF its.length 0 lo)).toArray:=by
 obtain ⟨h1,h2,h3⟩:=qD lo hi its.toArray.size
 unfold slicePick
 rw [h1,h2,h3]
 simp only [sliceRange_one,pick_run,List.size_toArray] <;> rfl
def UJ (K:PySem.W.Frag):V->Option Int->Option Int->Hp->VK->Prop:=fun x lo hi H Q=>∃ a xs,x=.ref a/\bD K H a xs/\∀ p,H p=none->Q (.ref p) (upd H p (.lst (jq xs lo hi)))
theorem wg:Nt X (UJ X.K):=by
 intro Z s σ H x v vl vu lo hi sl Q I rx hs pl pu h
 obtain ⟨a,xs,rfl,hx,q⟩:=h
 cases rx
 obtain ⟨its,r,ht,hz⟩:=I.list hx
 have hlen:=r.length
 refine ⟨"list",_,slot_list_getitem.lookup,ht.isList.typeIs,?_⟩
 refine wpAny_getItem_list_slice ht.isList hs pl pu .none (by simp) ?_ (by rw [List.size_toArray] <;> omega)
 rw [nY,← hlen]
 refine ⟨.ref s.heap.objs.size,_,I.laid (t':=s.toks) (o:=.lst (jq xs lo hi)) (fun b ob q=>Heap.get?_push_of_some _ q) (Nat.le_refl _) ?_,rfl,q _ (I.hok.fresh (Nat.le_refl _))⟩
 exact ⟨Nat.le_trans (lR xs lo hi) hz,_,0,(r.drop (HT.eF xs.length 0 lo)).take (HT.eF xs.length xs.length hi-HT.eF xs.length 0 lo),Heap.get?_push_size _ rfl⟩
def jL:V->Bool
 |.non=>true
 |.bl _=>true
 |.int _=>true
 |.str _=>true
 |_=>false
def vg:V->V->Bool
 |.non,.non=>true
 |.bl a,.bl b=>a == b
 |.bl a,.int b=>(if a then 1 else 0) == b
 |.int a,.bl b=>a == (if b then 1 else 0)
 |.int a,.int b=>a == b
 |.str a,.str b=>a == b
 |_,_=>false
theorem Ij (ry:RelV y u) (rx:RelV x v) (fy:jL y=true) (fx:jL x=true):SeqAt.EqAt A s u v (vg y x):=by
 cases y with
 | non=>
   cases ry
   cases x with
   |non=>cases rx;exact SeqAt.EqAt.same _
   |bl b=>cases rx;exact SeqAt.EqAt.none_bool b
   |int b=>obtain ⟨t,rfl⟩:=rx;exact SeqAt.EqAt.none_int b t
   |str b=>obtain ⟨t,rfl⟩:=rx;exact SeqAt.EqAt.none_str b t
   |_=>exact absurd (show false=true from fx) Bool.false_ne_true
 | bl a=>
   cases ry
   cases x with
   |non=>cases rx;exact SeqAt.EqAt.bool_none a
   |bl b=>cases rx;exact SeqAt.EqAt.bool_bool a b
   |int b=>obtain ⟨t,rfl⟩:=rx;exact SeqAt.EqAt.bool_int a b t
   |str b=>obtain ⟨t,rfl⟩:=rx;exact SeqAt.EqAt.bool_str a b t
   |_=>exact absurd (show false=true from fx) Bool.false_ne_true
 | int a=>
   obtain ⟨t',rfl⟩:=ry
   cases x with
   |non=>cases rx;exact SeqAt.EqAt.int_none a t'
   |bl b=>cases rx;exact SeqAt.EqAt.int_bool a t' b
   |int b=>obtain ⟨t,rfl⟩:=rx;exact SeqAt.EqAt.int_int a t' b t
   |str b=>obtain ⟨t,rfl⟩:=rx;exact SeqAt.EqAt.int_str a t' b t
   |_=>exact absurd (show false=true from fx) Bool.false_ne_true
 | str a=>
   obtain ⟨t',rfl⟩:=ry
   cases x with
   |non=>cases rx;exact SeqAt.EqAt.str_none a t'
   |bl b=>cases rx;exact SeqAt.EqAt.str_bool a t' b
   |int b=>obtain ⟨t,rfl⟩:=rx;exact SeqAt.EqAt.str_int a t' b t
   |str b=>obtain ⟨t,rfl⟩:=rx;exact SeqAt.EqAt.str_str a t' b t
   |_=>exact absurd (show false=true from fx) Bool.false_ne_true
 |_=>exact absurd (show false=true from fy) Bool.false_ne_true
def sW (x:V) (u:Value):Bool:=match u with
 |.none=>vg .non x
 |.bool b=>vg (.bl b) x
 |.int i _=>vg (.int i) x
 |.str z _=>vg (.str z) x
 |_=>false
theorem Bf (r:RelV y u) (f:jL y=true):sW x u=vg y x:=by
 cases y with
 |non=>cases r;rfl
 |bl b=>cases r;rfl
 |int i=>obtain ⟨t,rfl⟩:=r;rfl
 |str z=>obtain ⟨t,rfl⟩:=r;rfl
 |_=>exact absurd (show false=true from f) Bool.false_ne_true
theorem j_:∀ {xs:List V} {us:List Value},Vals xs us->xs.all jL=true->us.any (sW x)=xs.any fun y=>vg y x
 |_,_,.nil,_=>rfl
 | y::xs,u::us,.cons r t,f=>by
   rw [List.all_cons,Bool.and_eq_true] at f
   rw [List.any_cons,List.any_cons,Bf r f.1,j_ t f.2]
theorem jb (rx:RelV x v) (fx:jL x=true):∀ {xs:List V} {us:List Value},Vals xs us->xs.all jL=true->∀ u∈us,SeqAt.EqAt A s u v (sW x u)
 |_,_,.nil,_=>fun u hu=>by cases hu
 | y::xs,u::us,.cons r t,f=>fun u' hu=>by
   rw [List.all_cons,Bool.and_eq_true] at f
   rcases List.mem_cons.mp hu with rfl|hu
   ·rw [Bf r f.1];exact Ij r rx f.1 fx
   ·exact jb rx fx t f.2 u' hu
def inV (x:V) (xs:List V):Bool:=xs.any fun y=>vg y x
def WL (K:PySem.W.Frag) (neg:Bool):R2:=fun x y H Q=>∃ p xs,y=.ref p/\(bD K H p xs∨bI K H p xs)/\jL x=true/\xs.all jL=true/\Q (.bl (if neg then !inV x xs else inV x xs)) H
theorem jm:iT X (compareOp .In) (WL X.K false):=by
 intro Z s σ H x y v u Q I rx ry h
 obtain ⟨p,xs,rfl,hq,fx,fs,q⟩:=h
 cases ry
 rcases hq with hq|hq
 ·obtain ⟨its,r,pl,hz⟩:=I.list hq
  refine SeqAt.in_listAt (sW x) pl.isList (fun w hw=>jb rx fx r fs w (by simpa using hw)) ⟨.bl _,H,I,rfl,?_⟩
  rw [show its.toArray.any (sW x)=its.any (sW x) by simp,j_ r fs]
  exact q
 ·obtain ⟨its,r,pl,hz⟩:=I.tuple hq
  refine SeqAt.in_tupleAt (sW x) pl (fun w hw=>jb rx fx r fs w (by simpa using hw)) ⟨.bl _,H,I,rfl,?_⟩
  rw [show its.toArray.any (sW x)=its.any (sW x) by simp,j_ r fs]
  exact q
theorem kh:iT X (compareOp .NotIn) (WL X.K true):=by
 intro Z s σ H x y v u Q I rx ry h
 obtain ⟨p,xs,rfl,hq,fx,fs,q⟩:=h
 cases ry
 rcases hq with hq|hq
 ·obtain ⟨its,r,pl,hz⟩:=I.list hq
  refine SeqAt.notIn_listAt (sW x) pl.isList (fun w hw=>jb rx fx r fs w (by simpa using hw)) ⟨.bl _,H,I,rfl,?_⟩
  rw [show its.toArray.any (sW x)=its.any (sW x) by simp,j_ r fs]
  exact q
 ·obtain ⟨its,r,pl,hz⟩:=I.tuple hq
  refine SeqAt.notIn_tupleAt (sW x) pl (fun w hw=>jb rx fx r fs w (by simpa using hw)) ⟨.bl _,H,I,rfl,?_⟩
  rw [show its.toArray.any (sW x)=its.any (sW x) by simp,j_ r fs]
  exact q
theorem bx:gF X (.builtin "len") (fun xs H Q=>∃ p ys,xs=[.ref p]/\(bD X.K H p ys∨bI X.K H p ys)/\Q (.int ys.length) H):=by
 intro Z s σ H xs us Q I r h
 obtain ⟨p,ys,rfl,hq,q⟩:=h
 obtain ⟨u,rfl,rx⟩:=vals1 r
 cases rx
 have hn:=lH
 rcases hq with hq|hq
 ·obtain ⟨its,r',pl,hz⟩:=I.list hq
  have hlen:=r'.length
  exact Calls.call_len_list pl.isList (by simp only [List.size_toArray] <;> omega) ⟨.int ys.length,H,I.tok _,⟨s.toks+1,by rw [List.size_toArray,hlen]⟩,q⟩
 ·obtain ⟨its,r',pl,hz⟩:=I.tuple hq
  have hlen:=r'.length
  exact len_tuple pl (by simp only [List.size_toArray] <;> omega) ⟨.int ys.length,H,I.tok _,⟨s.toks+1,by rw [List.size_toArray,hlen]⟩,q⟩
theorem d_:gF X (.builtin "len") (fun xs H Q=>∃ z,xs=[.str z]/\z.length≤sizeLine/\Q (.int z.length) H):=by
 intro Z s σ H xs us Q I r h
 obtain ⟨z,rfl,hz,q⟩:=h
 obtain ⟨u,rfl,t,rfl⟩:=vals1 r
 have hn:=lH
 exact len_str (by omega) ⟨.int z.length,H,I.tok _,⟨_,rfl⟩,q⟩
theorem ql:gF X (.type "list") (fun xs H Q=>∃ p ys,xs=[.ref p]/\(bD X.K H p ys∨bI X.K H p ys)/\∀ l,H l=none->Q (.ref l) (upd H l (.lst ys))):=by
 intro Z s σ H xs us Q I r h
 obtain ⟨p,ys,rfl,hq,q⟩:=h
 obtain ⟨u,rfl,rx⟩:=vals1 r
 cases rx
 have fin:∀ (its:List Value),Vals ys its->ys.length≤sizeLine->∀ (h':Heap) (c':Nat),(∀ b o',s.heap.get? b=some o'->h'.get? b=some o')->
  h'.get? s.heap.objs.size=some { cls:=.type "list",dict:=none,data:=.seq its.toArray c',slots:=#[] }->EP X Z σ Q (.ref s.heap.objs.size) { s with heap:=h' }:=fun its r' hz h' c' kp e=>
  ⟨.ref s.heap.objs.size,_,I.laid (t':=s.toks) kp (Nat.le_refl _) (show cX X.prog X.w _ h' _ (.lst ys) from ⟨hz,its,c',r',e⟩),rfl,q _ (I.hok.fresh (Nat.le_refl _))⟩
 rcases hq with hq|hq
 ·obtain ⟨its,r',pl,hz⟩:=I.list hq
  have hlen:=r'.length
  obtain ⟨o,ho,hc,n,hd⟩:=pl.isList
  exact call_list_seq p (.inl rfl) ho hc hd (fun h' c' kp e=>fin its r' hz h' c' kp e) (by simp only [List.size_toArray] <;> omega)
 ·obtain ⟨its,r',pl,hz⟩:=I.tuple hq
  have hlen:=r'.length
  obtain ⟨o,ho,hc,n,hd⟩:=pl
  exact call_list_seq p (.inr rfl) ho hc hd (fun h' c' kp e=>fin its r' hz h' c' kp e) (by simp only [List.size_toArray] <;> omega)
theorem gU:gF X (.type "tuple") (fun xs H Q=>∃ p ys,xs=[.ref p]/\((bD X.K H p ys/\∀ l,H l=none->Q (.ref l) (upd H l (.tup ys)))∨(bI X.K H p ys/\Q (.ref p) H))):=by
 intro Z s σ H xs us Q I r h
 obtain ⟨p,ys,rfl,h⟩:=h
 obtain ⟨u,rfl,rx⟩:=vals1 r
 cases rx
 rcases h with ⟨hq,q⟩|⟨hq,q⟩
 ·obtain ⟨its,r',pl,hz⟩:=I.list hq
  have hlen:=r'.length
  refine call_tuple_list pl.isList (fun h' kp=>?_) (by simp only [List.size_toArray] <;> omega)
  have I1:Inv X Z σ H { s with heap:=h' }:=I.kept (t':=s.toks) kp
  have I2:Inv X Z σ (upd H h'.objs.size (.tup ys)) { s with heap:=h'.push { cls:=.type "tuple",data:=.seq its.toArray } }:=
   I1.laid (t':=s.toks) (fun b o e=>Heap.get?_push_of_some _ e) (Nat.le_refl _) (show cX X.prog X.w _ _ _ (.tup ys) from ⟨hz,its,r',IsTup.new _ _⟩)
  exact ⟨.ref h'.objs.size,_,I2,rfl,q _ (I1.hok.fresh (Nat.le_refl _))⟩
 ·obtain ⟨its,r',pl,hz⟩:=I.tuple hq
  exact call_tuple_same pl ⟨.ref p,H,I,rfl,q⟩
def Vs (K:PySem.W.Frag) (T:String) (x:V) (H:Hp):Prop:=match x with
 |.str _=>T = "str"
 |.int _=>T = "int"
 |.ref p=>(T = "list"/\∃ xs,bD K H p xs)∨(T = "tuple"/\∃ o,K.lookup p=some o/\o.cls=.type "tuple"/\o.dict=none)∨
  (T = "dict"/\((∃ kvs,H p=some (.dK kvs))∨∃ kvs,H p=some (.dT kvs)))∨(T = "set"/\∃ S n,H p=some (.set S n))
 |_=>False
theorem Bd (I:Inv X Z σ H s) (r:RelV x v) (ty:Vs X.K T x H) :
 s.TypeIs v T/\∀ a,v=.ref a->∃ ob,s.heap.get? a=some ob/\ob.dict=none:=by
 cases x with
 | str z=>
   obtain ⟨t,rfl⟩:=r
   cases (show T = "str" from ty)
   exact ⟨typeIs_str s z t,fun _ e=>nomatch e⟩
 | int i=>
   obtain ⟨t,rfl⟩:=r
   cases (show T = "int" from ty)
   exact ⟨typeIs_int s i t,fun _ e=>nomatch e⟩
 | ref p=>
   cases r
   rcases ty with ⟨rfl,xs,hq⟩|⟨rfl,o,hk,hc,hd⟩|⟨rfl,hk⟩|⟨rfl,S,n,hk⟩
   ·obtain ⟨its,_,pl,_⟩:=I.list hq
    refine ⟨pl.isList.typeIs,fun a e=>?_⟩
    cases e
    obtain ⟨o,n,e,c,hd,_⟩:=pl
    exact ⟨o,e,hd⟩
   ·refine ⟨⟨o,I.kIn p o hk,hc⟩,fun a e=>?_⟩
    cases e
    exact ⟨o,I.kIn _ o hk,hd⟩
   ·have z:∃ o,s.heap.get? p=some o/\o.ExactDict:=by
     rcases hk with ⟨kvs,hk⟩|⟨kvs,hk⟩
     ·obtain ⟨_,_,_,_,o,_,_,e,ex,_⟩:=I.hok p _ hk
      exact ⟨o,e,ex⟩
     ·obtain ⟨_,_,_,_,o,_,_,e,ex,_⟩:=I.hok p _ hk
      exact ⟨o,e,ex⟩
    obtain ⟨o,e,ex⟩:=z
    refine ⟨⟨o,e,ex.1⟩,fun a e2=>?_⟩
    cases e2
    exact ⟨o,e,ex.2.1⟩
   ·obtain ⟨o,_,_,_,e,ex,_⟩:=I.hok p _ hk
    refine ⟨⟨o,e,ex.1⟩,fun a e2=>?_⟩
    cases e2
    exact ⟨o,e,ex.2.1⟩
 |_=>exact False.elim ty
def UL (K:PySem.W.Frag) (T:String) (r:V->List V->Hp->VK->Prop) (to:TE):TE:=fun σ H Q=>to σ H fun x H1=>Vs K T x H1/\r x [] H1 Q
def Xh (K:PySem.W.Frag) (T:String) (r:V->List V->Hp->VK->Prop) (to:TE) (t:TA):TE:=fun σ H Q=>to σ H fun x H1=>Vs K T x H1/\t σ H1 fun xs H2=>r x xs H2 Q
theorem uK {X:Cx} {o:Expr} {to:TE} {name:Str} {apos cpos:Pos} {T id:String} {r:V->List V->Hp->VK->Prop} (pa:PlainAttrs T) (slot:Slot T name id) (hty:typeOf (.builtin id)=pure (.type "method_descriptor")) (hm:Kv X id r) (ho:PE X o to)
 (hbase:attributeBase o name X.env (eval o X.env)=eval o X.env:=by rfl) (hline:(apos.endLine == cpos.line)=true:=by rfl):PE X (.Call (.Attribute o name apos) [] [] cpos) (UL X.K T r to):=by
 intro Z s σ H Q I h
 refine wpAny_Call_method0_late hbase hline (cz (ho Z s σ H _ I h) fun v s1 ⟨x,H1,I1,r1,ty,q1⟩=>?_)
 obtain ⟨h1,h2⟩:=Bd I1 r1 ty
 exact ⟨T,id,pa,slot,hty,h1,h2,Calls.callWith_builtin rfl (PySem.evalArgs_none (hm Z s1 σ H1 x [] v [] Q I1 r1 .nil q1))⟩
theorem gB {X:Cx} {o e:Expr} {es:List Expr} {to:TE} {t:TA} {name:Str} {apos cpos:Pos} {T id:String} {r:V->List V->Hp->VK->Prop} (pa:PlainAttrs T) (slot:Slot T name id) (hty:typeOf (.builtin id)=pure (.type "method_descriptor")) (hm:Kv X id r) (ho:PE X o to) (ha:PA X (e::es) t)
 (hbase:attributeBase o name X.env (eval o X.env)=eval o X.env:=by rfl)
 (hfew:((backTo cpos (starEach (e::es) X.env)).all (fun x=>!x.1) && (backToKw cpos (keywordEach [] X.env)).all (fun x=>x.1.isSome)
  && decide ((e::es).length+([]:List Keyword).length+(if ([]:List Keyword).isEmpty then 0 else 1)<30))=true:=by rfl)
 (hline:(apos.endLine == cpos.line)=true:=by rfl) (hs:starEach (e::es) X.env=(false,eval e X.env)::starEach es X.env:=by rfl) (hplain:(backTo cpos (starEach es X.env)).any (·.1)=false:=by rfl) :
 PE X (.Call (.Attribute o name apos) (e::es) [] cpos) (Xh X.K T r to t):=by
 intro Z s σ H Q I h
 refine wpAny_Call_method_late hbase hfew hline rfl (cz (ho Z s σ H _ I h) fun v s1 ⟨x,H1,I1,r1,ty,q1⟩=>?_)
 obtain ⟨h1,h2⟩:=Bd I1 r1 ty
 refine ⟨T,id,pa,slot,hty,h1,h2,?_⟩
 have hA:=ha cpos Z s1 σ H1 _ I1 q1
 rw [hs] at hA ⊢
 refine Calls.callWith_builtin (by show (false || (backTo cpos (starEach es X.env)).any (·.1))=false;rw [hplain] <;> rfl) (Calls.evalArgs_plain ?_)
 exact cz hA fun us s2 ⟨vs,H2,I2,r2,q2⟩=>hm Z s2 σ H2 x vs v us Q I2 r1 r2 q2
def Wf (X:Cx) (id:String) (r:V->List V->Hp->VK->Prop):Prop:=
 ∀ (Z:List (Addr×Obj)) (s:Shared) (σ:St) (H:Hp) (x:V) (xs:List V) (v:Value) (us:List Value) (Q:VK),Inv X Z σ H s->RelV x v->Vals xs us->r x xs H Q->
   wpAny (model X.prog X.w) X.A (call (.builtin id) (v::us)) (EP X Z σ Q) X.xe s
theorem Vals.one:∀ {x:V} {us:List Value},Vals [x] us->∃ u,us=[u]/\RelV x u
 |_,_,.cons r .nil=>⟨_,rfl,r⟩
section
variable {X:Cx} {Z:List (Addr×Obj)} {σ:St} {H:Hp} {s:Shared} {l b:Addr} {xs ys zs:List V}
theorem Inv.lset {its its':List Value} {f:Array Value->Array Value} (I:Inv X Z σ H s) (hH:H l=some (.lst xs))
 (e:s.heap.get? l=some { cls:=.type "list",data:=.seq its.toArray n }) (hf:f its.toArray=its'.toArray) (hv:Vals ys its') (hz:ys.length≤sizeLine) :
 Inv X Z σ (upd H l (.lst ys)) { s with heap:=s.heap.update l (Obj.mapSeq f),toks:=t' }:=by
 have q:=PySem.IsL.update e f
 rw [hf] at q
 refine I.write (x:=l) (e:=l) (by rw [hH];exact trivial) (.inl rfl) (fun b' u hb hu=>(Heap.get?_update_other s.heap (Obj.mapSeq f) (Ne.symm hb)).trans hu) ⟨_,q⟩ ?_
 exact ⟨hz,its',_,hv,q⟩
theorem Inv.lnew (I:Inv X Z σ H s) (hv:Vals ys its) (hz:ys.length≤sizeLine) :
 Inv X Z σ (upd H s.heap.objs.size (.lst ys)) { s with heap:=s.heap.push { cls:=.type "list",data:=.seq its.toArray },toks:=t' }:=
 I.laid (fun _ _ q=>Heap.get?_push_of_some _ q) (Nat.le_refl _) ⟨hz,its,0,hv,Heap.get?_push_size _ rfl⟩
theorem Inv.fresh (I:Inv X Z σ H s):H s.heap.objs.size=none:=I.hok.fresh (Nat.le_refl _)
theorem Inv.lstM (I:Inv X Z σ H s) (hH:H l=some (.lst xs)):xs.length≤sizeLine/\∃ (its:List Value) (n:Nat),Vals xs its/\xs.length=its.length/\s.heap.get? l=some { cls:=.type "list",data:=.seq its.toArray n }:=by
 obtain ⟨z,its,n,r,e⟩:=I.hok l _ hH
 exact ⟨z,its,n,r,r.length,e⟩
theorem qZ (h:n≤sizeLine):Builtin.List.listTooLong n=false:=by
 unfold Builtin.List.listTooLong
 exact decide_eq_false (by omega)
end
section
variable {X:Cx}
def Dg:V->List V->Hp->VK->Prop:=fun x vs H Q=>∃ l xs y,x=.ref l/\vs=[y]/\H l=some (.lst xs)/\xs.length<sizeLine/\Q .non (upd H l (.lst (xs++[y])))
theorem dJ:Wf X "list.append" Dg:=by
 intro Z s σ H x vs v us Q I rx rv h
 obtain ⟨l,xs,y,rfl,rfl,hH,hz,q⟩:=h
 cases rx
 obtain ⟨u,rfl,ru⟩:=rv.one
 obtain ⟨z,its,n,r,hl,e⟩:=I.lstM hH
 refine call_meets F.slot_list_append ⟨_,e,rfl⟩ F.entry_list_append (F.args_list_append_2 _ _) (PySem.list_append l its.toArray n u (by rw [List.size_toArray];omega)) ⟨e,?_⟩
 refine ⟨.non,_,I.lset (its':=its++[u]) hH e (by simp) (r.append (.cons ru .nil)) ?_,rfl,q⟩
 rw [List.length_append,List.length_singleton]
 omega
def Ds:V->List V->Hp->VK->Prop:=fun x vs H Q=>∃ l b xs zs,x=.ref l/\vs=[.ref b]/\H l=some (.lst xs)/\H b=some (.lst zs)/\xs.length+zs.length≤sizeLine/\Q .non (upd H l (.lst (xs++zs)))
theorem pG:Wf X "list.extend" Ds:=by
 intro Z s σ H x vs v us Q I rx rv h
 obtain ⟨l,b,xs,zs,rfl,rfl,hH,hB,hz,q⟩:=h
 cases rx
 obtain ⟨u,rfl,ru⟩:=rv.one
 cases ru
 obtain ⟨z,its,n,r,hl,e⟩:=I.lstM hH
 obtain ⟨z2,its2,n2,r2,hl2,e2⟩:=I.lstM hB
 have hsz:its.toArray.size+its2.toArray.size≤sizeLine:=by rw [List.size_toArray,List.size_toArray];omega
 have hlong:¬ (!its.toArray.isEmpty && Builtin.List.listTooLong (its.toArray.size+its2.toArray.size))=true:=by
  rw [qZ hsz,Bool.and_false]
  exact Bool.false_ne_true
 refine call_meets F.slot_list_extend ⟨_,e,rfl⟩ F.entry_list_extend (F.args_list_extend_2 _ _)
  (AutoSeq1.list_extend_list_list_0 l its.toArray n b its2.toArray n2 hlong (by rw [List.size_toArray];omega) (by omega)) ⟨e,e2,?_⟩
 refine ⟨.non,_,I.lset (its':=its++its2) hH e (by simp) (r.append r2) ?_,rfl,q⟩
 rw [List.length_append]
 omega
def Wd:R2:=fun x y H Q=>∃ l b xs zs,x=.ref l/\y=.ref b/\H l=some (.lst xs)/\H b=some (.lst zs)/\xs.length+zs.length≤sizeLine/\∀ p,H p=none->Q (.ref p) (upd H p (.lst (xs++zs)))
theorem zB:iT X (binaryOp .Add) Wd:=by
 intro Z s σ H x y v u Q I rx ry h
 obtain ⟨l,b,xs,zs,rfl,rfl,hH,hB,hz,q⟩:=h
 cases rx
 cases ry
 obtain ⟨z,its,n,r,hl,e⟩:=I.lstM hH
 obtain ⟨z2,its2,n2,r2,hl2,e2⟩:=I.lstM hB
 refine PySem.P.add_list e e2 ?_ (by rw [List.size_toArray,List.size_toArray];omega)
 have ea:its.toArray++its2.toArray=(its++its2).toArray:=by simp
 rw [ea]
 exact ⟨.ref _,_,I.lnew (t':=s.toks) (r.append r2) (by rw [List.length_append];omega),rfl,q _ I.fresh⟩
end
section
variable {κ:Type} [DecidableEq κ]
def eO (kvs:List (κ×V)) (k:κ):Option V:=(kvs.find? fun kv=>decide (kv.1=k)).map (·.2)
def putK (kvs:List (κ×V)) (k:κ) (v:V):List (κ×V):=
 if (kvs.any fun kv=>decide (kv.1=k))=true then kvs.map (fun kv=>if kv.1=k then (kv.1,v) else kv) else kvs++[(k,v)]
theorem zX:eO ([]:List (κ×V)) k=none:=rfl
theorem dz {p:κ×V} {r:List (κ×V)} {k:κ} (e:p.1=k):eO (p::r) k=some p.2:=by simp [eO,List.find?_cons,e]
theorem dD {p:κ×V} {r:List (κ×V)} {k:κ} (e:¬ p.1=k):eO (p::r) k=eO r k:=by simp [eO,List.find?_cons,e]
theorem kW (k:κ):∀ kvs:List (κ×V),(kvs.any fun kv=>decide (kv.1=k))=(eO kvs k).isSome
 |[]=>rfl
 | p::r=>by
   rw [List.any_cons]
   by_cases e:p.1=k
   ·simp only [dz e,decide_eq_true e,Bool.true_or,Option.isSome_some]
   ·rw [dD e,decide_eq_false e,Bool.false_or];exact kW k r
theorem sy (k j:κ) (y:V):∀ kvs:List (κ×V),eO (kvs.map fun kv=>if kv.1=k then (kv.1,y) else kv) j=(eO kvs j).map fun x=>if j=k then y else x
 |[]=>rfl
 | p::r=>by
   have ih:=sy k j y r
   rw [List.map_cons]
   by_cases h:p.1=k
   ·rw [if_pos h]
    by_cases e:p.1=j
    ·rw [dz (p:=(p.1,y)) e,dz e,Option.map_some,if_pos (e.symm.trans h)]
    ·rw [dD (p:=(p.1,y)) e,dD e,ih]
   ·rw [if_neg h]
    by_cases e:p.1=j
    ·rw [dz (p:=p) e,dz e,Option.map_some,if_neg (fun z=>h (e.trans z))]
    ·rw [dD (p:=p) e,dD e,ih]
theorem pA (k j:κ) (y:V):∀ kvs:List (κ×V),eO kvs k=none->eO (kvs++[(k,y)]) j=if j=k then some y else eO kvs j
 | [],_=>by
   by_cases e:k=j
   ·rw [if_pos e.symm];exact dz (p:=(k,y)) e
   ·rw [if_neg (fun z=>e z.symm)];exact dD (p:=(k,y)) e
 | p::r,hn=>by
   rw [List.cons_append]
   have hk:¬ p.1=k:=fun z=>by rw [dz z] at hn;cases hn
   rw [dD hk] at hn
   have ih:=pA k j y r hn
   by_cases e:p.1=j
   ·rw [dz e,dz e,if_neg (fun z=>hk (e.trans z))]
   ·rw [dD e,dD e,ih]
theorem jX (kvs:List (κ×V)) (k j:κ) (y:V):eO (putK kvs k y) j=if j=k then some y else eO kvs j:=by
 unfold putK
 by_cases a:(kvs.any fun kv=>decide (kv.1=k))=true
 ·rw [if_pos a,sy]
  rw [kW] at a
  by_cases e:j=k
  ·obtain ⟨x,hx⟩:=Option.isSome_iff_exists.mp a
   rw [if_pos e,e,hx,Option.map_some,if_pos rfl]
  ·rw [if_neg e]
   cases eO kvs j with
   |none=>rfl
   |some x=>rw [Option.map_some,if_neg e]
 ·rw [if_neg a]
  refine pA k j y kvs ?_
  rw [kW] at a
  cases q:eO kvs k with
  |none=>rfl
  |some x=>rw [q] at a;exact (a rfl).elim
theorem e_ (kvs:List (κ×V)) (k:κ) (v:V):(putK kvs k v).length≤kvs.length+1:=by
 unfold putK
 split
 ·rw [List.length_map];omega
 ·rw [List.length_append,List.length_cons,List.length_nil];omega
theorem jA.isSome_eq (r:jA o u):o.isSome=u.isSome:=by
 cases o with
 | none=>cases u with
   |none=>rfl
   |some _=>exact (show False from r).elim
 | some _=>cases u with
   |none=>exact (show False from r).elim
   |some _=>rfl
theorem KV.val {kvs:List (κ×V)} {vs:List (κ×Value)} (r:KV kvs vs) (k:κ):jA (eO kvs k) (valueAt vs k):=by
 unfold KV at r
 induction r with
 |nil=>exact True.intro
 | @cons p q ps qs h t ih=>
   obtain ⟨h1,h2⟩:=h
   by_cases e:p.1=k
   ·have e':q.1=k:=h1.symm.trans e
    have b:valueAt (q::qs) k=some q.2:=by simp [valueAt,List.find?_cons,e']
    rw [dz e,b];exact h2
   ·have e':¬ q.1=k:=fun z=>e (h1.trans z)
    have b:valueAt (q::qs) k=valueAt qs k:=by simp [valueAt,List.find?_cons,e']
    rw [dD e,b];exact ih
theorem KV.any (r:KV kvs vs) (k:κ):(kvs.any fun kv=>decide (kv.1=k))=vs.any fun kv=>decide (kv.1=k):=by
 unfold KV at r
 induction r with
 |nil=>rfl
 |cons h t ih=>rw [List.any_cons,List.any_cons,ih,h.1]
theorem KV.repl (r:KV kvs vs) (k:κ) (ry:RelV y u) :
 KV (kvs.map fun kv=>if kv.1=k then (kv.1,y) else kv) (vs.map fun kv=>if kv.1=k then (kv.1,u) else kv):=by
 unfold KV at r ⊢
 induction r with
 |nil=>exact .nil
 | @cons p q ps qs h t ih=>
   rw [List.map_cons,List.map_cons]
   refine .cons ?_ ih
   obtain ⟨h1,h2⟩:=h
   by_cases e:p.1=k
   ·rw [if_pos e,if_pos (h1.symm.trans e)];exact ⟨h1,ry⟩
   ·rw [if_neg e,if_neg (fun z=>e (h1.trans z))];exact ⟨h1,h2⟩
theorem KV.put (r:KV kvs vs) (k:κ) (ry:RelV y u):KV (putK kvs k y) (stored vs k u):=by
 unfold putK stored
 rw [r.any k]
 by_cases e:(vs.any fun kv=>decide (kv.1=k))=true
 ·rw [if_pos e,if_pos e];exact r.repl k ry
 ·rw [if_neg e,if_neg e];exact Paired.snoc r ⟨rfl,ry⟩
theorem KV.length {kvs:List (κ×V)} {vs:List (κ×Value)} (r:KV kvs vs):kvs.length=vs.length:=Paired.length r
end
theorem uR (r:RelV (kV k) u):(d9 P w).is k u=true:=by
 cases k with
 |inl i=>obtain ⟨t,e⟩:=(show ∃ t,u=Value.int i t from r);subst e;exact rR P w i t
 |inr x=>obtain ⟨t,e⟩:=(show ∃ t,u=Value.str x t from r);subst e;exact rN P w x t
theorem oK:∀ {ks:List Key} {us:List Value},Vals (ks.map kV) us->ItemsAre (d9 P w) ks us
 |[],_,r=>by rw [List.map_nil] at r;cases r;exact .nil
 | k::ks,_,r=>by
   rw [List.map_cons] at r
   cases r with
   |cons h t=>exact .cons (uR h) (oK t)
abbrev KT (H:Hp):List (List Key×V)->List (List Key×Addr×Value)->Prop:=Paired fun p q=>p.1=q.1/\H q.2.1=some (.tup (p.1.map kV))/\RelV p.2 q.2.2
theorem KT.val {H:Hp} {kvs:List (List Key×V)} {xs:List (List Key×Addr×Value)} (r:KT H kvs xs) (k:List Key):jA (eO kvs k) ((atKey xs k).map (·.2)):=by
 induction r with
 |nil=>exact True.intro
 | @cons p q ps qs h t ih=>
   obtain ⟨h1,_,h2⟩:=h
   by_cases e:p.1=k
   ·have e':q.1=k:=h1.symm.trans e
    have b:atKey (q::qs) k=some q.2:=by simp [atKey,List.find?_cons,e']
    rw [dz e,b];exact h2
   ·have e':¬ q.1=k:=fun z=>e (h1.trans z)
    have b:atKey (q::qs) k=atKey qs k:=by simp [atKey,List.find?_cons,e']
    rw [dD e,b];exact ih
theorem KT.repl (r:KT H kvs xs) (k:List Key) (ry:RelV y u) :
 KT H (kvs.map fun kv=>if kv.1=k then (kv.1,y) else kv) (xs.map (putAt k u)):=by
 induction r with
 |nil=>exact .nil
 | @cons p q ps qs h t ih=>
   rw [List.map_cons,List.map_cons]
   refine .cons ?_ ih
   obtain ⟨h1,h2,h3⟩:=h
   unfold putAt
   by_cases e:p.1=k
   ·rw [if_pos e,if_pos (h1.symm.trans e)];exact ⟨h1,h2,ry⟩
   ·rw [if_neg e,if_neg (fun z=>e (h1.trans z))];exact ⟨h1,h2,h3⟩
theorem KT.put (r:KT H kvs xs) (k:List Key) (hb:H b=some (.tup (k.map kV))) (ry:RelV y u) :
 KT H (putK kvs k y) (storedH xs k b u):=by
 have e:(kvs.any fun kv=>decide (kv.1=k))=(atKey xs k).isSome:=by
  rw [kW,(r.val k).isSome_eq,Option.isSome_map]
 unfold putK storedH
 rw [e]
 by_cases q:(atKey xs k).isSome=true
 ·rw [if_pos q,if_pos q];exact r.repl k ry
 ·rw [if_neg q,if_neg q];exact Paired.snoc r ⟨rfl,hb,ry⟩
theorem KT.keeps {H H':Hp} (r:KT H kvs xs) (ht:∀ b ys,H b=some (.tup ys)->H' b=some (.tup ys)):KT H' kvs xs:=
 Paired.mapP r fun _ _ z=>⟨z.1,ht _ _ z.2.1,z.2.2⟩
theorem Gs (ok:jK P w H h) (e:Rd H a u):cX P w H h a u:=e.ok ok
theorem zu (ok:jK P w H h) (e:Rd H a (.dK kvs)):kvs.length≤sizeLine/\(a == sysModules)=false/\∃ vs,KV kvs vs/\h.DictOf (d9 P w) a vs:=
 show cX P w H h a (.dK kvs) from Gs ok e
theorem FZ (ok:jK P w H h) (e:H a=some (.dK kvs)):kvs.length≤sizeLine/\(a == sysModules)=false/\∃ vs,KV kvs vs/\h.DictOf (d9 P w) a vs:=zu ok (.inl e)
theorem um (ok:jK P w H h) (e:H a=some (.tup (ks.map kV))):(tupleKind (d9 P w)).is h ks a:=by
 obtain ⟨_,its,r,o,h1,h2,n,h3⟩:=(show cX P w H h a (.tup (ks.map kV)) from ok a _ e)
 exact ⟨o,its.toArray,n,h1,h2,h3,by simpa using oK r⟩
theorem Ao (ok:jK P w H h) (e:Rd H a (.dT kvs)):kvs.length≤sizeLine/\(a == sysModules)=false/\
 ∃ xs,KT H kvs xs/\h.DictOfH (tupleKind (d9 P w)) a xs:=by
 obtain ⟨z,y,xs,r,o,es,ep,h1,h2,h3,h4,h5⟩:=(show cX P w H h a (.dT kvs) from Gs ok e)
 refine ⟨z,y,xs,r,o,es,ep,h1,h2,h3,h4,fun x hx=>?_,h5⟩
 have all:∀ {l:List (List Key×V)} {m:List (List Key×Addr×Value)},KT H l m->∀ x∈m,(tupleKind (d9 P w)).is h x.1 x.2.1:=by
  intro l m q
  induction q with
  |nil=>intro x hx;exact nomatch hx
  | @cons p q ps qs hq t ih=>
    intro x hx
    rcases List.mem_cons.mp hx with e|hx
    ·subst e
     exact um ok (by rw [← hq.1];exact hq.2.1)
    ·exact ih x hx
 exact all r x hx
theorem S_ (ok:jK P w H h) (e:H a=some (.dT kvs)):kvs.length≤sizeLine/\(a == sysModules)=false/\
 ∃ xs,KT H kvs xs/\h.DictOfH (tupleKind (d9 P w)) a xs:=Ao ok (.inl e)
def jz (H:Hp) (a:Addr) (y:V) (r:Option V):Prop:=
 (∃ kvs k,Rd H a (.dK kvs)/\y=kV k/\r=eO kvs k)∨∃ kvs k b,Rd H a (.dT kvs)/\y=.ref b/\H b=some (.tup (k.map kV))/\r=eO kvs k
def nG (H:Hp) (a:Addr) (y v:V) (H':Hp):Prop:=
 (∃ kvs k,H a=some (.dK kvs)/\y=kV k/\kvs.length<sizeLine/\H'=upd H a (.dK (putK kvs k v)))∨
 ∃ kvs k b,H a=some (.dT kvs)/\y=.ref b/\H b=some (.tup (k.map kV))/\kvs.length<sizeLine/\H'=upd H a (.dT (putK kvs k v))
theorem jz.k {H:Hp} {a:Addr} {kvs:List (Key×V)} {k:Key} (e:H a=some (.dK kvs)):jz H a (kV k) (eO kvs k):=.inl ⟨kvs,k,.inl e,rfl,rfl⟩
theorem nG.k {H:Hp} {a:Addr} {kvs:List (Key×V)} {k:Key} {v:V} (e:H a=some (.dK kvs)) (hl:kvs.length<sizeLine):nG H a (kV k) v (upd H a (.dK (putK kvs k v))):=.inl ⟨kvs,k,e,rfl,hl,rfl⟩
section
variable {X:Cx} {Z:List (Addr×Obj)} {σ:St} {H:Hp} {s:Shared} {a:Addr} {y v:V} {u r:Value} {o:Option V} {A:Around} {E:Value->Shared->Prop}
theorem Inv.big (I:Inv X Z σ H s):sysModules<s.heap.objs.size:=by
 have h:mainGlobals<s.heap.objs.size:=(I.mod.glob.keeps I.bk).lt
 exact Nat.lt_trans (by decide) h
theorem xO (hu:A.units+1<cLine) (I:Inv X Z σ H s) (g:jz H a y (some v)) (ry:RelV y u) (h:∀ w' s',Inv X Z σ H s'->RelV v w'->Q w' s') :
 wpAny (model X.prog X.w) A (getItem (.ref a) u) Q E s:=by
 rcases g with ⟨kvs,k,e,ey,l⟩|⟨kvs,k,b,e,ey,eb,l⟩
 ·subst ey
  obtain ⟨z,hd,vs,rel,dd⟩:=zu I.hok e
  obtain ⟨w',hw,rw'⟩:=jA.some_of (v:=v) (o:=valueAt vs k) (by rw [l];exact rel.val k)
  exact wpAny_getItem_of (uR ry) dd.mapOf hw (h w' _ (I.tok _) rw')
 ·subst ey
  cases (show u=Value.ref b from ry)
  obtain ⟨z,hd,xs,rel,dd⟩:=Ao I.hok e
  obtain ⟨w',hw,rw'⟩:=jA.some_of (v:=v) (o:=(atKey xs k).map (·.2)) (by rw [l];exact rel.val k)
  obtain ⟨p,hp,hp2⟩:=Option.map_eq_some_iff.mp hw
  refine wpAny_getItem_heap (tupleKind_room_in1 hu) (um I.hok eb) dd hp ?_
  rw [hp2]
  exact h w' _ (I.tok _) rw'
theorem m9 (I:Inv X Z σ H s) (mu:Om (H a)) (hs:Heap.SameBut a s.heap h') (he:∃ q,h'.get? a=some q) (new:cX X.prog X.w (upd H a ob) h' a ob) :
 Inv X Z σ (upd H a ob) { s with heap:=h',toks:=t' }:=
 I.write (x:=a) (e:=a) mu (.inl rfl) (fun b q hb z=>(hs.2 b hb).trans z) he new
theorem yz (z:kvs.length≤sizeLine) (hd:(a == sysModules)=false) (rel:KV kvs vs) (dd:h'.DictOf (d9 P w) a vs) :
 cX P w H' h' a (.dK kvs):=⟨z,hd,vs,rel,dd⟩
theorem wC {Q:Unit->Shared->Prop} (hu:A.units+1<cLine) (I:Inv X Z σ H s) (g:nG H a y v H') (ry:RelV y u) (rv:RelV v r) (h:∀ s',Inv X Z σ H' s'->Q () s') :
 wpAny (model X.prog X.w) A (setItem (.ref a) u r) Q E s:=by
 rcases g with ⟨kvs,k,e,ey,l,eH⟩|⟨kvs,k,b,e,ey,eb,l,eH⟩
 ·subst ey eH
  obtain ⟨z,hd,vs,rel,dd⟩:=FZ I.hok e
  have hz:vs.length≤sizeLine:=by rw [← rel.length];exact z
  have hl:(putK kvs k v).length≤sizeLine:=by have:=e_ kvs k v;omega
  refine wpAny_setItem_pairs (hsz:=hz) (uR ry) dd fun h' dd' hs=>h _ ?_
  have he:∃ q,h'.get? a=some q:=let ⟨q,_,_,hq,_⟩:=dd';⟨q,hq⟩
  exact m9 I (by rw [e];exact True.intro) hs he (yz hl hd (rel.put k rv) dd')
 ·subst ey eH
  cases (show u=Value.ref b from ry)
  obtain ⟨z,hd,xs,rel,dd⟩:=S_ I.hok e
  have hz:xs.length≤sizeLine:=by rw [← Paired.length rel];exact z
  have hl:(putK kvs k v).length≤sizeLine:=by have:=e_ kvs k v;omega
  refine wpAny_setItem_heap (hsz:=hz) (tupleKind_room_in1 hu) (um I.hok eb) dd fun h' dd' hs=>h _ ?_
  obtain ⟨q,es,ep,hq,h2,h3,h4,_,h5⟩:=dd'
  refine m9 I (by rw [e];exact True.intro) hs ⟨q,hq⟩ ⟨hl,hd,_,(rel.put k eb rv).keeps fun c ys ec=>?_,q,es,ep,hq,h2,h3,h4,h5⟩
  rw [aH (fc ec e (fun z=>nomatch z))]
  exact ec
end
def NZ (i:Expr):Prop:=∀ ov iv,subscripted i false ov iv=operate [ov,iv] (getItem ov iv)
theorem Ex {prog:Program} {w:World} {A:Around} {E:Value->Shared->Prop} {s:Shared} {env:Env} {value slice:Expr} {pos:Pos} {T id:String} {Q:Value->Shared->Prop}
 (hl:typeLookup (.type T) "__getitem__" = pure (some (.builtin id))) (hs:NZ slice)
 (h:wpAny (model prog w) A (eval value env) (fun o s₁=>wpAny (model prog w) A (eval slice env) (fun i s₂=>s₂.TypeIs o T/\wpAny (model prog w) A (getItem o i) Q E s₂) E s₁) E s) :
 wpAny (model prog w) A (eval (.Subscript value slice pos) env) Q E s:=by
 refine Subscript_ (wpAny_mono h (fun o s₁ h₁=>wpAny_mono h₁ (fun i s₂ h₂=>?_) fun _ _ x=>x) fun _ _ x=>x)
 obtain ⟨hT,h₂⟩:=h₂
 unfold subscriptTail
 refine wpAny_bind ?_
 rw [getitemInPython_of_ne hT.not_modules]
 refine wpAny_bind (wpAny_specialOf hT hl ?_)
 have fin:wpAny (model prog w) A (subscripted slice false o i) (fun r s₃=>wpAny (model prog w) A (letTemporaryGo value o r >>= fun _=>pure r) Q E s₃) E s₂:=by
  rw [hs o i]
  exact wpAny_operating (wpAny_mono h₂ (fun r s₃ h₃=>wpAny_bind (wpAny_letTemporaryGo (wpAny_pure h₃))) fun _ _ x=>x)
 first
  |exact wpAny_pure (wpAny_bind fin)
  |exact wpAny_bind (wpAny_pure (wpAny_bind fin))
  |exact wpAny_bind fin
theorem sU (I:Inv X Z σ H s) (g:jz H a y o):s.TypeIs (.ref a) "dict":=by
 rcases g with ⟨kvs,k,e,_,_⟩|⟨kvs,k,b,e,_,_,_⟩
 ·obtain ⟨_,_,vs,_,dd⟩:=zu I.hok e
  exact dd.typeIs
 ·obtain ⟨_,_,xs,_,dd⟩:=Ao I.hok e
  exact dd.typeIs
def QR (td ty:TE):TE:=fun σ H Q=>td σ H fun x H1=>ty σ H1 fun y H2=>∃ a v,x=.ref a/\jz H2 a y (some v)/\Q v H2
def QC (td ty tv:TE):TS:=fun D σ H=>tv σ H fun v H1=>td σ H1 fun x H2=>ty σ H2 fun y H3=>∃ a H4,x=.ref a/\nG H3 a y v H4/\D.nx σ H4
theorem cO {X:Cx} (hu:X.A.units+1<cLine) (ho:PE X o td) (hi:PE X i ty) (hs:NZ i):PE X (.Subscript o i pos) (QR td ty):=by
 intro Z s σ H Q I h
 refine Ex PySem.F.slot_dict_getitem.lookup hs (cz (ho Z s σ H _ I h) fun u s1 ⟨x,H1,I1,rx,q1⟩=>cz (hi Z s1 σ H1 _ I1 q1) fun iv s2 ⟨y,H2,I2,ry,a,v,ex,g,q2⟩=>?_)
 subst ex
 obtain rfl:u=Value.ref a:=rx
 exact ⟨sU I2 g,xO hu I2 g ry fun w' s3 I3 rw'=>⟨v,H2,I3,rw',q2⟩⟩
theorem iM {X:Cx} {pos:Pos} (hu:X.A.units+1<cLine) (ho:PE X o td) (hi:PE X i ty) (hv:PE X value tv) (hs:swapsWith value (some (.Subscript o i pos')) pos.line X.env=pure false) :
 PS X (.Assign [.Subscript o i pos'] value pos) (QC td ty tv):=by
 intro Z s σ H D I h
 refine wpAny_Assign_Subscript (cz (hv Z s σ H _ I h) fun r s1 ⟨v,H1,I1,rv,q1⟩=>cz (ho Z s1 σ H1 _ I1 q1) fun u s2 ⟨x,H2,I2,rx,q2⟩=>cz (hi Z s2 σ H2 _ I2 q2) fun iv s3 ⟨y,H3,I3,ry,a,H4,ex,g,q3⟩=>?_) hs
 subst ex
 obtain rfl:u=Value.ref a:=rx
 exact wC hu I3 g ry rv fun s4 I4=>⟨σ,H4,I4,q3⟩
theorem rP (h:Heap) (hb:sysModules<h.objs.size):cX P w H (h.push { cls:=.type "dict",data:=.dict #[] }) h.objs.size (.dK []):=
 ⟨Nat.zero_le _,beq_eq_false_iff_ne.mpr (Ne.symm (Nat.ne_of_lt hb)),[],.nil,Heap.DictOf.new h⟩
def Ho:TE:=fun _ H Q=>∀ p,H p=none->Q (.ref p) (upd H p (.dK []))
theorem yR:PE X (.Dict [] [] pos) Ho:=fun Z s σ H Q I h=>
 wpAny_Dict_empty ⟨.ref s.heap.objs.size,_,I.laid (a:=s.heap.objs.size) (o:=.dK []) (t':=s.toks) (fun _ _ q=>Heap.get?_push_of_some _ q) (Nat.le_refl _) (rP s.heap I.big),rfl,h _ (I.hok.fresh (Nat.le_refl _))⟩
def sV:List (TE×TE)->St->Hp->(List (V×V)->Hp->Prop)->Prop
 |[],_,H,Q=>Q [] H
 |(tk,tv)::r,σ,H,Q=>tk σ H fun x H1=>tv σ H1 fun y H2=>sV r σ H2 fun ps H3=>Q ((x,y)::ps) H3
abbrev VV:List (V×V)->List (Value×Value)->Prop:=Paired fun p q=>RelV p.1 q.1/\RelV p.2 q.2
def U3 (X:Cx) (pos:Pos) (keys:List (Option Expr)) (values:List Expr) (trs:List (TE×TE)):Prop:=
 ∀ (Z:List (Addr×Obj)) (s:Shared) (σ:St) (H:Hp) (Q:List (V×V)->Hp->Prop),Inv X Z σ H s->sV trs σ H Q->
   wpAny (model X.prog X.w) X.A (evalPairs (pairTrees keys values X.env pos)) (fun vs s'=>∃ ps H',Inv X Z σ H' s'/\VV ps vs/\Q ps H') X.xe s
theorem vN:U3 X pos [] [] []:=fun Z s σ H Q I h=>pairTrees_nil_walk ⟨[],H,I,.nil,h⟩
theorem ie {X:Cx} {pos:Pos} {k v:Expr} {ks:List (Option Expr)} {vs:List Expr} {tk tv:TE} {trs:List (TE×TE)} (hk:PE X k tk) (hv:PE X v tv) (hr:U3 X pos ks vs trs) :
 U3 X pos (some k::ks) (v::vs) ((tk,tv)::trs):=fun Z s σ H Q I h=>
 pairTrees_cons_walk (cz (hk Z s σ H _ I h) fun u s1 ⟨x,H1,I1,rx,q1⟩=>cz (hv Z s1 σ H1 _ I1 q1) fun w2 s2 ⟨y,H2,I2,ry,q2⟩=>
  cz (hr Z s2 σ H2 _ I2 q2) fun ws s3 ⟨ps,H3,I3,rel,q3⟩=>⟨(x,y)::ps,H3,I3,.cons ⟨rx,ry⟩ rel,q3⟩)
def iR (kvs more:List (Key×V)):List (Key×V):=more.foldl (fun acc kv=>putK acc kv.1 kv.2) kvs
theorem KV.merge:∀ {more:List (Key×V)} {rs:List (Key×Value)} {kvs:List (Key×V)} {vs:List (Key×Value)},KV more rs->KV kvs vs->KV (iR kvs more) (merged vs rs):=by
 intro more rs kvs vs r
 unfold KV at r
 induction r generalizing kvs vs with
 |nil=>intro q;exact q
 | @cons p q ps qs h t ih=>
   intro r0
   have e:KV (putK kvs p.1 p.2) (stored vs q.1 q.2):=by
    have:=r0.put p.1 h.2
    rw [← h.1];exact this
   exact ih e
theorem jB:∀ (more kvs:List (Key×V)),(iR kvs more).length≤kvs.length+more.length
 |[],kvs=>by show kvs.length≤kvs.length+0;omega
 | p::r,kvs=>by
   have h1:=jB r (putK kvs p.1 p.2)
   have h2:=e_ kvs p.1 p.2
   show (iR (putK kvs p.1 p.2) r).length≤_
   rw [List.length_cons];omega
theorem nu:∀ {kvs:List (Key×V)} {ws:List (Value×Value)},VV (kvs.map fun kv=>(kV kv.1,kv.2)) ws->∃ rs,Carries (d9 P w) ws rs/\KV kvs rs
 |[],_,r=>by rw [List.map_nil] at r;cases r;exact ⟨[],True.intro,.nil⟩
 | p::kvs,_,r=>by
   rw [List.map_cons] at r
   cases r with
   | @cons a b as bs h t=>
     obtain ⟨rs,c,q⟩:=nu (P:=P) (w:=w) t
     obtain ⟨b1,b2⟩:=b
     exact ⟨(p.1,b2)::rs,⟨uR h.1,rfl,c⟩,.cons ⟨rfl,h.2⟩ q⟩
def Qu (trs:List (TE×TE)):TE:=fun σ H Q=>∀ p,H p=none->sV trs σ (upd H p (.dK [])) fun ps H2=>H2 p=some (.dK [])/\∃ kvs:List (Key×V),ps=kvs.map (fun kv=>(kV kv.1,kv.2))/\kvs.length≤15/\Q (.ref p) (upd H2 p (.dK (iR [] kvs)))
theorem vh {X:Cx} {pos:Pos} {keys:List (Option Expr)} {values:List Expr} {trs:List (TE×TE)} (h:U3 X pos keys values trs) (hall:keys.all (·.isSome)=true) (hl:keys.length=values.length) (h0:keys≠[])
 (h15:keys.length≤15):PE X (.Dict keys values pos) (Qu trs):=by
 intro Z s σ H Q I q
 have hn:=I.hok.fresh (Nat.le_refl s.heap.objs.size)
 have I1:=I.laid (a:=s.heap.objs.size) (o:=.dK []) (h':=s.heap.push { cls:=.type "dict",data:=.dict #[] }) (t':=s.toks) (fun _ _ q=>Heap.get?_push_of_some _ q) (Nat.le_refl _) (rP s.heap I.big)
 refine wpAny_Dict_walk (knd:=d9 X.prog X.w) hall hl h0 h15 (cz (h Z _ σ _ _ I1 (q _ hn)) fun ws s2 ⟨ps,H2,I2,rel,e,kvs,ep,lk,q2⟩=>?_)
 subst ep
 obtain ⟨rs,c,rk⟩:=nu (P:=X.prog) (w:=X.w) rel
 obtain ⟨z,hd,vs0,r0,dd⟩:=FZ I2.hok e
 cases r0
 refine ⟨rs,c,dd,fun h' dd' hs=>⟨.ref s.heap.objs.size,_,?_,rfl,q2⟩⟩
 have hz:(iR [] kvs).length≤sizeLine:=by
  have h1:=jB kvs []
  rw [List.length_nil] at h1
  rw [sizeLine_eq];omega
 have he:∃ q,h'.get? s.heap.objs.size=some q:=let ⟨q,_,_,hq,_⟩:=dd';⟨q,hq⟩
 exact m9 I2 (by rw [e];exact True.intro) hs he (yz hz hd (rk.merge .nil) dd')
structure M1 (X:Cx) (o:Expr) (m:Str) (apos:Pos) (e:Expr) (cpos:Pos):Prop where
 base:attributeBase o m X.env (eval o X.env)=eval o X.env
 few:((backTo cpos (starEach [e] X.env)).all (fun x=>!x.1) && (backToKw cpos (keywordEach [] X.env)).all (fun x=>x.1.isSome)
  && decide (([e]:List Expr).length+([]:List Keyword).length+(if ([]:List Keyword).isEmpty then 0 else 1)<30))=true
 line:(apos.endLine == cpos.line)=true
 trees:backTo cpos (starEach [e] X.env)=[(false,eval e X.env)]
end L2
namespace Att
open PySem PySem.W PySem.Calls PyProof.Rows
theorem lY:∀ (ns:List Int) (vs:List Value),WellAll P h vs (ns.map WData.int)->IntsAre vs ns:=by
 intro ns
 induction ns with
 | nil=>
   intro vs w
   rw [List.map_nil] at w
   cases w
   exact .nil
 | cons n ns ih=>
   intro vs w
   rw [List.map_cons] at w
   cases w with
   | cons a b=>
     cases a
     exact .cons _ _ (ih _ b)
theorem xR {l:OpenLaw} (hn:l.most=some n) {h:Heap}
 (hpre:l.row.toRowW.claim.pre args=true) (hwl:WellAll P h vals args) :
 ∃ a vs ns,vals=[Value.ref a]/\args=[WData.list (ns.map WData.int)]/\h.get? a=some { cls:=.type "list",data:=.seq vs.toArray }/\IntsAre vs ns/\ns.length≤n:=by
 have hsh:WShape.hasAll [] args [.list .int]=true:=(pre_splitW hpre).1
 have hc:l.pre.holds [] { args:=args }=true:=(pre_splitW hpre).2
 obtain ⟨d,r,rfl,h1,h2⟩:=hasAllW_cons hsh
 obtain rfl:=hasAllW_nil h2
 obtain ⟨xs,rfl,h3⟩:=hasW_list h1
 obtain ⟨ns,rfl⟩:=items_int h3
 have hlen:ns.length≤n:=by
  unfold OpenLaw.pre at hc
  have h4:(WTm.not (.lt (.lit (.int (n:Int))) (.len (.arg 0)))).holds [] { args:=[.list (ns.map .int)] }=true:=by
   have h4:=(holds_andW hc).1
   rw [hn] at h4
   exact h4
  have h5:=condW_of h4 (w_not (w_lt w_lit (w_len_list (w_arg rfl))))
  rw [List.length_map] at h5
  refine Nat.le_of_not_lt fun q=>?_
  have q':(n:Int)<((ns.length:Nat):Int):=by omega
  first
   |(rw [decide_eq_true q'] at h5;exact absurd h5 (by decide))
   |(simp at h5;omega)
 cases hwl with
 | cons w1 w2=>
   cases w2
   cases w1 with
   |list ho hall=>exact ⟨_,_,ns,rfl,rfl,ho,lY ns _ hall,hlen⟩
theorem wF (l:OpenLaw) (args:List WData):l.row.toRowW.claim.post args (.bool true) args=true:=
 postW_of (r:=l.row.toRowW) (X:=(true == true))
  (show WShape.has [] (.bool true) .bool=true by first|rfl|decide|simp [WShape.has,WShape.arms,WShape.armsAll])
  (show (WTm.eq .res (.lit (.bool true))).value [] { args:=args,res:=some (.bool true),after:=args }=some (.bool (true == true)) from w_eq_bool (w_res rfl) w_lit) rfl
theorem rY {l:OpenLaw} {YP:World->Heap->Prop} {d:DefRec}
 (hn:l.most=some n) (hdf:d.params.defaults=[])
 (call:∀ (w:World) (s₀ s₁:Shared) (mg mb:Str->Option Value) (fa:Addr) (o:Obj) (pm cd doc:Value) (a:Addr) (vs:List Value) (ns:List Int),
  Ground q loose [] XP w s₀ mg mb s₁.heap->YP w s₁.heap->
  s₁.heap.get? fa=some o->o.data=.func (docDef d.name d.params d.body d.scope pm cd doc)->s₁.heap.CodeRec cd d.name->mg d.name=some (.ref fa)->
  s₁.heap.get? a=some { cls:=.type "list",data:=.seq vs.toArray }->IntsAre vs ns->ns.length≤n->s₁.gens=#[]->
  codeAny (model l.prog w) callerA (.call (.ref fa) ⟨[.ref a],[]⟩) (fun r s'=>r=.ok (.ret (.bool true))/\OldK s₁.heap s'.heap/\s'.os=s₁.os/\AllBare s'.gens) s₁) :
 WalkO q loose XP YP l.row.toRowW d [] (fun f vs=>PySem.call f vs):=by
 intro w s₀ s₁ mg mb G Y fa o pm cd doc dV kV ho hd hcd hD hmg hg args vals as hpre hlay hrd hwl hlo
 obtain rfl:dV=.none:=Dflts.none hD hdf
 obtain rfl:kV=.none:=Dflts.noKw hD
 obtain ⟨a,vs,ns,rfl,rfl,hobj,hints,hlen⟩:=xR hn hpre hwl
 refine enter_call (codeAny_mono (call w s₀ s₁ mg mb fa o pm cd doc a vs ns G Y ho (fd_plain hd) hcd hmg hobj hints hlen hg) fun r s' hq=>?_)
 obtain ⟨rfl,h2,h3,h4⟩:=hq
 exact ⟨.inl ⟨.bool true,.bool true,[],rfl,fun _=>rfl,.bool true,wF l _,fun _=>⟨List.Pairwise.nil,fun _ hm=>(nomatch hm)⟩⟩,h2,h3,h4⟩
section
variable {prog:Program} {w:World} {A:Around} {E:Value->Shared->Prop} {s:Shared} {K:Frag}
end
end Att
namespace L2
open PySem PySem.Spec PyProof.Rows
theorem oR:∀ {vs:List Value} {ns:List Int},IntsAre vs ns->Vals (ns.map V.int) vs
 |_,_,.nil=>.nil
 |_,_,.cons n t h=>.cons ⟨t,rfl⟩ (oR h)
def Only (H:Hp):Prop:=∀ b,H b=none∨∃ o xs,H b=some (.frz o (.lst xs))
theorem Ak {K:PySem.W.Frag} {mb:Str->Option Value} {s₁:Shared} {vs:List Value} {ns:List Int}
 (KX:K.In s₁.heap) (hns:s₁.heap.Ns mainGlobals mg) (hb:s₁.heap.Ns builtinsNs mb) (hbb:∀ x:Str,x ≠ "__name__"->mb x=bootBuiltins x) (hlim:s₁.heap.NoLimit) (hg:s₁.gens=#[])
 (ha:s₁.heap.get? a=some { cls:=.type "list",data:=.seq vs.toArray }) (hi:IntsAre vs ns) (hl:ns.length≤sizeLine) (hr:bH k callerA)
 (F:∀ base:Heap,K.In base->base.Ns mainGlobals mg->aJ P w K mg base CX k fa fd [x] sp) (hbind:∀ (s:Shared) (u:Value),BindsTo s fd ⟨[u],[]⟩ [(x,u)])
 (hsp:∀ H:Hp,Only H->bD K H a (ns.map V.int)->sp [.ref a] H (fun v _=>v=.bl true) fun _ _ _=>False)
 (hCX:∀ H e s',CX [] H s₁ (fun _ _ _=>False) e s'->False) :
 codeAny (model P w) callerA (.call (.ref fa) ⟨[.ref a],[]⟩) (fun r s'=>r=.ok (.ret (.bool true))/\OldK s₁.heap s'.heap/\s'.os=s₁.os/\AllBare s'.gens) s₁:=by
 have rv:=oR hi
 have lenV:=hi.length
 have core:∀ H:Hp,Only H->bD K H a (ns.map V.int)->jK P w H s₁.heap->(∀ b,H b≠none->b=a)->(H a≠none->K.lookup a=none)->
  codeAny (model P w) callerA (.call (.ref fa) ⟨[.ref a],[]⟩) (fun r s'=>r=.ok (.ret (.bool true))/\OldK s₁.heap s'.heap/\s'.os=s₁.os/\AllBare s'.gens) s₁:=by
  intro H hO hS hok hA hK
  have base_of:∀ {b:Addr} {o:Obj},s₁.heap.get? b=some o->H b=none->(qH s₁.heap H).get? b=some o:=fun e n=>zA e n
  have noA:∀ {b:Addr} {o:Obj} {es:Array DictEntry} {ep:Nat},s₁.heap.get? b=some o->o.data=.dict es ep->H b=none:=fun {b o es ep} e d=>by
   cases q:H b with
   |none=>rfl
   | some u=>
     have e':b=a:=hA b (by rw [q];simp)
     subst e'
     rw [ha] at e;cases e
     have d':Data.seq vs.toArray _=Data.dict es ep:=d
     cases d'
  have nsK:∀ {b:Addr} {m:Str->Option Value},s₁.heap.Ns b m->(qH s₁.heap H).Ns b m:=fun {b m} ⟨o,es,ep,e,d,r⟩=>⟨o,es,ep,base_of e (noA e d),d,r⟩
  have hKb:K.In (qH s₁.heap H):=fun b o e=>base_of (KX b o e) (by
   cases q:H b with
   |none=>rfl
   | some u=>
     have e':b=a:=hA b (by rw [q];simp)
     subst e'
     rw [hK (by rw [q];simp)] at e;cases e)
  have hM:Mod K mg (qH s₁.heap H):=⟨hKb,nsK hns,⟨mb,nsK hb,hbb⟩,let ⟨mc,h1,h2⟩:=hlim;⟨mc,nsK h1,h2⟩⟩
  have e0:tR P w K mg (qH s₁.heap H) callerA [] s₁ H:=⟨rfl,hM,fun b o e=>Dl e,Nat.le_of_eq (wA _ _),trivial,fun b hb=>absurd (show b∈([]:List Addr) from hb) (by simp),hok,.of_eq hg⟩
  refine codeAny_mono ((F _ hKb (nsK hns)).run callerA [] s₁ H ⟨[.ref a],[]⟩ [.ref a] [.ref a] _ _ hr e0 (hbind s₁ (.ref a)) (.cons rfl .nil) (hsp H hO hS)) fun r s' h=>?_
  cases r with
  |error e=>exact (hCX H e s' h).elim
  | ok fl=>
    cases fl with
    |next=>exact False.elim h
    |brk=>exact False.elim h
    |cont=>exact False.elim h
    | ret u=>
      obtain ⟨v,H',os,bare,un,hok',r',q⟩:=h
      have q':v=.bl true:=q
      subst q'
      obtain rfl:u=Value.bool true:=r'
      refine ⟨rfl,OldK.of_keep fun b o e=>?_,os,bare⟩
      cases q:H b with
      |none=>exact un.keep b o e q (by intro z;exact absurd (show b∈([]:List Addr) from z) (by simp)) (by simp)
      | some u=>
        rcases hO b with z|⟨ob,xs,z⟩
        ·rw [q] at z;cases z
        ·have z2:=un.frzs b ob _ z
         obtain ⟨e1,_⟩:=hok b _ z
         obtain ⟨e2,_⟩:=hok' b _ z2
         rw [e] at e1;cases e1
         exact e2
 cases hk:K.lookup a with
 | some o=>
   have e:=KX a o hk
   rw [ha] at e
   cases e
   refine core (fun _=>none) (fun _=>.inl rfl) (.inr ⟨_,vs.toArray,_,hk,rfl,rfl,rfl,by rw [List.size_toArray,lenV];exact hl,by simpa using rv⟩) (fun b u z=>by have z':(none:Option HO)=some u:=z;cases z') (fun b z=>absurd rfl z) fun z=>absurd rfl z
 | none=>
   refine core (fun b=>if b=a then some (.frz { cls:=.type "list",data:=.seq vs.toArray } (.lst (ns.map V.int))) else none) (fun b=>?_) (.inl (.inr ⟨{ cls:=.type "list",data:=.seq vs.toArray },if_pos rfl⟩)) (fun b u z=>?_) (fun b z=>?_) fun _=>hk
   ·by_cases hb:b=a
    ·exact .inr ⟨_,_,if_pos hb⟩
    ·exact .inl (if_neg hb)
   ·by_cases hb:b=a
    ·have z':=(if_pos hb).symm.trans z
     cases z'
     subst hb
     exact ⟨ha,by rw [List.length_map];exact hl,vs,_,rv,ha⟩
    ·have z':=(if_neg hb).symm.trans z
     cases z'
   ·by_cases hb:b=a
    ·exact hb
    ·exact absurd (if_neg hb) z
theorem Cp {l:PySem.W.OpenLaw} {YP:World->Heap->Prop} {d:DefRec} {K:Params->PySem.W.Frag} {CX:World->Bv} {sp:World->Sp}
 (hn:l.most=some n) (hn2:n≤sizeLine) (hdf:d.params.defaults=[]) (hr:bH k callerA)
 (hY:∀ (w:World) (h:Heap),YP w h->(K w.params).In h)
 (F:∀ (w:World) (mg:Str->Option Value) (fa:Addr) (h:Heap),(K w.params).In h->h.Ns mainGlobals mg->mg d.name=some (.ref fa)->
  ∃ fd:FuncData,(∀ (s:Shared) (u:Value),BindsTo s fd ⟨[u],[]⟩ [(x,u)])/\
    ∀ base:Heap,(K w.params).In base->base.Ns mainGlobals mg->aJ l.prog w (K w.params) mg base (CX w) k fa fd [x] (sp w))
 (hsp:∀ (w:World) (H:Hp) (a:Addr) (ns:List Int),ns.length≤n->Only H->bD (K w.params) H a (ns.map V.int)->sp w [.ref a] H (fun v _=>v=.bl true) fun _ _ _=>False)
 (hCX:∀ (w:World) (H:Hp) (s:Shared) (e:Value) (s':Shared),CX w [] H s (fun _ _ _=>False) e s'->False) :
 PySem.W.WalkO q loose XP YP l.row.toRowW d [] (fun f vs=>PySem.call f vs):=by
 refine Att.rY hn hdf fun w s₀ s₁ mg mb fa o pm cd doc a vs ns G Y ho hd hcd hmg hobj hints hlen hg=>?_
 have KX:=hY w _ Y
 obtain ⟨fd,hb,hF⟩:=F w mg fa _ KX G.T.g hmg
 exact Ak KX G.T.g G.T.b G.T.builtins G.T.nolimit hg hobj hints (Nat.le_trans hlen hn2) hr hF hb (fun H hO hS=>hsp w H a ns hlen hO hS) fun H e s'=>hCX w H s₁ e s'
def inClass (s:Stmt) (j:Nat):Stmt:=match s with
 |.ClassDef _ _ _ body _ _ _ _ _ _ _=>body.getD j (.Pass ⟨0,0,0,0⟩)
 |_=>.Pass ⟨0,0,0,0⟩
def eE (s:Stmt):Arguments:=match s with
 |.FunctionDef _ a _ _ _ _ _ _ _ _=>a
 |_=>{ posonlyargs:=[],args:=[],vararg:=none,kwonlyargs:=[],kw_defaults:=[],kwarg:=none,defaults:=[] }
def dN (s:Stmt):List Stmt:=match s with
 |.FunctionDef _ _ b _ _ _ _ _ _ _=>b
 |_=>[]
def aA (s:Stmt):Scope:=match s with
 |.FunctionDef _ _ _ _ _ _ sc _ _ _=>sc
 |_=>{ kind:=.function,names:=[],isGenerator:=false,isCoroutine:=false }
abbrev bB:Bv:=fun _ _ _ _ _ _=>False
abbrev E0:XK:=fun _ _ _=>False
theorem jE:lE bB X E0:=fun _ _ _ _ _ _ _ h=>h.elim
structure fK (K:PySem.W.Frag) (x qual:Str) (st:Stmt) (f:Addr) (fd:FuncData):Prop where
 ex:∃ (oc:Value) (od:Option Addr) (kV doc pm:Value) (an:Option Addr) (cdv ct:Value) (osl:Array (Option Value)),
  fd=PySem.W.fnOf x qual (eE st) (dN st) (aA st) .none kV doc pm an cdv ct/\K.lookup f=some ⟨oc,od,.func fd,osl⟩/\PySem.W.codeIn K cdv qual=true
 kp:PySem.W.keepIn K (.ref f)=true
theorem fK.ok {P:Program} {w:World} {K:PySem.W.Frag} {mg:Str->Option Value} {base:Heap} {x qual:Str} {st:Stmt} {f:Addr} {fd:FuncData} {N ps:List Str} {k:Nat} {sp:Sp} (F:fK K x qual st f fd) (S:aN N ps (aA st)) (len:∀ vs H Q E,sp vs H Q E->vs.length=ps.length)
 (hbody:∀ (cdv:Value) (A:Around) (outer:List Env) (s:Shared) (H:Hp) (vs:List V) (Q:VK) (E:XK),bH k (A.deeper (envOfC qual (aA st) s.heap.objs.size f cdv))->sp vs H Q E->
  ∃ t,u_ (uL bB P w K mg base N qual (aA st) f cdv A outer s H E).nox (dN st) t/\t { nx:=fun _ H'=>Q .non H',rt:=Q } (start N vs) H):aJ P w K mg base bB (k+1) f fd ps sp:=by
 obtain ⟨oc,od,kV,doc,pm,an,cdv,ct,osl,rfl,lk,hcd⟩:=F.ex
 refine FP lk hcd S len fun A outer s H vs Q E hr hsp=>?_
 obtain ⟨t,h,q⟩:=hbody cdv A outer s H vs Q E hr hsp
 exact ⟨t,h.nox,q⟩
theorem fK.binds {K:PySem.W.Frag} {x qual:Str} {st:Stmt} {f:Addr} {fd:FuncData} {ps:List Str} (F:fK K x qual st f fd)
 (h:∀ (kV doc pm:Value) (an:Option Addr) (cdv ct:Value) (us:List Value),us.length=ps.length->bindArgs (PySem.W.fnOf x qual (eE st) (dN st) (aA st) .none kV doc pm an cdv ct) ⟨us,[]⟩=pure (ps.zip us)):Binds K fd ps []:=by
 obtain ⟨oc,od,kV,doc,pm,an,cdv,ct,osl,rfl,lk,hcd⟩:=F.ex
 exact .all (h kV doc pm an cdv ct)
theorem vy (hr:bH k A):A.units+1<cLine:=Nat.lt_of_le_of_lt (Nat.add_le_add_left (by decide:1≤64) _) hr.units
theorem eX (h:n≤1000):n<sizeLine:=Nat.lt_of_le_of_lt h (by decide)
theorem pv (i:Nat) (hN:X.N[i]?=some x:=by rfl) (hv:Rq X.env.scope x:=by first|exact Or.inl rfl|exact Or.inr (.inl rfl)|exact Or.inr (.inr rfl)) (hd:(x == ("__debug__" : Str))=false:=by decide)
 (hcd:(x == ("__classdict__" : Str))=false:=by decide):PE X (.Name x pos) (rC i):=GQ hN hv hd hcd
theorem gD {c A B:Prop} [Decidable c] (h1:c->A) (h2:¬ c->B):if c then A else B:=by
 by_cases h:c
 ·rw [if_pos h]
  exact h1 h
 ·rw [if_neg h]
  exact h2 h
def az (H H':Hp):Prop:=∀ b o,H b=some o->H' b=some o
theorem az.refl (H:Hp):az H H:=fun _ _ h=>h
theorem az.trans (a:az H H1) (b:az H1 H2):az H H2:=fun c o h=>b c o (a c o h)
theorem az.free (e:az H H') (h:H' l=Option.none):H l=Option.none:=by
 cases q:H l with
 |none=>rfl
 | some o=>
   rw [e l o q] at h
   cases h
theorem az.seq {K:PySem.W.Frag} {H H':Hp} {a:Addr} {xs:List V} (e:az H H') (h:bD K H a xs):bD K H' a xs:=by
 rcases h with (h|⟨o,h⟩)|h
 ·exact .inl (.inl (e _ _ h))
 ·exact .inl (.inr ⟨o,e _ _ h⟩)
 ·exact .inr h
section
variable {κ:Type} [DecidableEq κ]
theorem uT:∀ {l:List κ} {k:κ},l.Nodup->¬ k∈l->(l++[k]).Nodup
 |[],k,_,_=>by simp
 | a::r,k,h,hk=>by
   obtain ⟨h1,h2⟩:=List.nodup_cons.mp h
   show (a::(r++[k])).Nodup
   refine List.nodup_cons.mpr ⟨fun m=>?_,uT h2 fun m=>hk (List.mem_cons.mpr (Or.inr m))⟩
   rcases List.mem_append.mp m with q|q
   ·exact h1 q
   ·exact hk (List.mem_cons.mpr (Or.inl (List.mem_singleton.mp q).symm))
end
theorem iH (scope:Scope) (h:∀ y∈scope.names,y.2=.free->∃ c,env.cells.lookup y.1=some c) :
 ∃ cl,closureFor scope env=pure cl/\(∀ x c,cl.lookup x=some c->env.cells.lookup x=some c)/\∀ x,(x,NameKind.free)∈scope.names->∃ c,cl.lookup x=some c:=by
 have go:∀ (names:List (Str×NameKind)) (acc:List (Str×Addr)),(∀ y∈names,y.2=.free->∃ c,env.cells.lookup y.1=some c)->(∀ x c,acc.lookup x=some c->env.cells.lookup x=some c)->
  ∃ cl,(forIn names acc fun x cs=>(match x with
    |(name,kind)=>if kind == NameKind.free then (do let c ← cellOf env name;pure (ForInStep.yield ((name,c)::cs))) else pure (ForInStep.yield cs):Sem (ForInStep (List (Str×Addr)))))=pure cl/\
    (∀ x c,cl.lookup x=some c->env.cells.lookup x=some c)/\(∀ x,(x,NameKind.free)∈names∨(∃ c,acc.lookup x=some c)->∃ c,cl.lookup x=some c):=by
  intro names
  induction names with
  |nil=>intro acc _ ha;exact ⟨acc,rfl,ha,fun x z=>z.elim (fun q=>nomatch q) id⟩
  | cons y r ih=>
    intro acc hy ha
    obtain ⟨n,k⟩:=y
    by_cases hk:k=.free
    ·subst hk
     obtain ⟨c,hc⟩:=hy (n,.free) List.mem_cons_self rfl
     obtain ⟨cl,e,h1,h2⟩:=ih ((n,c)::acc) (fun z hz=>hy z (List.mem_cons_of_mem _ hz)) (fun x c' hx=>by
      rw [List.lookup_cons] at hx
      by_cases q:x == n
      ·rw [q] at hx
       cases hx
       rw [beq_iff_eq.mp q];exact hc
      ·rw [Bool.not_eq_true] at q
       rw [q] at hx
       exact ha x c' hx)
     refine ⟨cl,?_,h1,fun x z=>h2 x ?_⟩
     ·rw [List.forIn_cons]
      simp only [beq_self_eq_true,if_true,cellOf,hc]
      exact e
     ·have aux:∀ x,(∃ c',acc.lookup x=some c')->∃ c',((n,c)::acc).lookup x=some c':=fun x ⟨c',z⟩=>by
       rw [List.lookup_cons]
       by_cases q:x == n
       ·rw [q];exact ⟨_,rfl⟩
       ·rw [Bool.not_eq_true] at q
        rw [q];exact ⟨c',z⟩
      rcases z with z|z
      ·rcases List.mem_cons.mp z with z|z
       ·cases z
        exact .inr ⟨c,by rw [List.lookup_cons,beq_self_eq_true]⟩
       ·exact .inl z
      ·exact .inr (aux x z)
    ·have hb:(k == NameKind.free)=false:=by simpa using hk
     obtain ⟨cl,e,h1,h2⟩:=ih acc (fun z hz=>hy z (List.mem_cons_of_mem _ hz)) ha
     refine ⟨cl,?_,h1,fun x z=>h2 x ?_⟩
     ·rw [List.forIn_cons]
      simp only [hb,Bool.false_eq_true,if_false]
      exact e
     ·rcases z with z|z
      ·rcases List.mem_cons.mp z with z|z
       ·cases z
        exact absurd rfl hk
       ·exact .inl z
      ·exact .inr z
 obtain ⟨cl,e,h1,h2⟩:=go scope.names [] h (fun x c z=>by simp at z)
 refine ⟨cl,?_,h1,fun x z=>h2 x (.inl z)⟩
 unfold closureFor
 exact (congrArg (fun (m:Sem (List (Str×Addr)))=>m >>= fun cs=>pure cs) e).trans rfl
def aR (X:Cx) (scope:Scope) (N':List Str) (cl:List (Str×Addr)) (C:Addr) (s₀:Shared) (H₀:Hp) (ex:List Addr):Cx where
 prog:=X.prog
 w:=X.w
 K:=X.K
 mg:=X.mg
 base:=X.base
 A:=X.A
 N:=N'
 s₀:=s₀
 H₀:=H₀
 env:=compEnvC scope cl C X.env
 outer:=X.stack
 stack:=X.stack
 ex:=ex
 fn:=fun _=>false
 calm:=X.calm
 pn:=[]
 xe:=fun _ _=>False
def dY (k:Nat) (js:List Nat) (σ:St):St:=List.replicate k none++js.map fun j=>(σ[j]?).join
theorem ue (k:Nat) (js:List Nat) (σ:St):(dY k js σ).length=k+js.length:=by simp [dY]
structure bw (X:Cx) (scope:Scope) (own:List Str) (js:List Nat) (N':List Str):Prop where
 kind:scope.kind=.function
 nocell:∀ y∈scope.names,y.2≠.cell
 names:∀ y∈scope.names,y.2=.local->scope.names.lookup y.1=some .local
 free:∀ y∈scope.names,y.2=.free->X.env.kindOf y.1=some .cell∨X.env.kindOf y.1=some .free
 nm:N'=own++js.map fun j=>X.N.getD j Str.empty
 fr:∀ j∈js,j<X.N.length/\(X.N.getD j Str.empty,NameKind.free)∈scope.names/\∀ k,(X.N.getD j Str.empty,k)∈scope.names->k=.free
theorem lX {names:List (Str×NameKind)} (h:(x,NameKind.free)∈names) (u:∀ k,(x,k)∈names->k=.free):names.lookup x=some .free:=by
 induction names with
 |nil=>cases h
 | cons y r ih=>
   obtain ⟨n,k⟩:=y
   rw [List.lookup_cons]
   by_cases q:x == n
   ·rw [q]
    have e:x=n:=beq_iff_eq.mp q
    subst e
    rw [u k List.mem_cons_self]
   ·rw [Bool.not_eq_true] at q
    rw [q]
    refine ih ?_ fun k hk=>u k (List.mem_cons_of_mem _ hk)
    rcases List.mem_cons.mp h with z|z
    ·cases z
     rw [beq_self_eq_true] at q;cases q
    ·exact z
theorem lQ (h:(x,k)∈(relabel scope env).names) (hk:k=.cell∨k=.free) (hc:∀ y∈scope.names,y.2≠.cell):(x,NameKind.free)∈scope.names:=by
 unfold relabel at h
 obtain ⟨⟨n,k'⟩,hm,e⟩:=List.mem_map.mp h
 dsimp only at e
 by_cases q:(k' == NameKind.free && env.scope.kind == .function && env.kindOf n == some .cell)=true
 ·rw [if_pos q] at e
  cases e
  rw [Bool.and_eq_true,Bool.and_eq_true] at q
  have:k'=.free:=by simpa using q.1.1
  rw [← this];exact hm
 ·rw [if_neg q] at e
  cases e
  rcases hk with z|z
  ·exact absurd z (hc _ hm)
  ·rw [← z];exact hm
theorem fX {env:Env} {x:Str}:∀ {names:List (Str×NameKind)},names.lookup x=some .free->
 (names.map fun (n,k)=>if (k == NameKind.free && env.scope.kind == .function && env.kindOf n == some .cell) then (n,NameKind.cell) else (n,k)).lookup x=some .cell∨
 (names.map fun (n,k)=>if (k == NameKind.free && env.scope.kind == .function && env.kindOf n == some .cell) then (n,NameKind.cell) else (n,k)).lookup x=some .free
 |[],h=>by simp at h
 | (n,k)::r,h=>by
   have ih:=@fX env x r
   rw [List.lookup_cons] at h
   rw [List.map_cons]
   dsimp only
   by_cases q:x == n
   ·rw [q] at h
    cases h
    by_cases c:(NameKind.free == NameKind.free && env.scope.kind == .function && env.kindOf n == some .cell)=true
    ·rw [if_pos c,List.lookup_cons,q];exact .inl rfl
    ·rw [if_neg c,List.lookup_cons,q];exact .inr rfl
   ·rw [Bool.not_eq_true] at q
    rw [q] at h
    by_cases c:(k == NameKind.free && env.scope.kind == .function && env.kindOf n == some .cell)=true
    ·rw [if_pos c,List.lookup_cons,q];exact ih h
    ·rw [if_neg c,List.lookup_cons,q];exact ih h
theorem Inv.comp {X:Cx} {H:Hp} {s:Shared} {scope:Scope} {own:List Str} {cl:List (Str×Addr)} {h₁:Heap} (S:bw X scope own js N') (I:Inv X Z σ H s)
 (hc1:∀ x c,cl.lookup x=some c->X.env.cells.lookup x=some c) (hc2:∀ x,(x,NameKind.free)∈scope.names->∃ c,cl.lookup x=some c) (hC:s.heap.objs.size≤C) (hns:h₁.Ns C m) (hk:∀ b o,s.heap.get? b=some o->h₁.get? b=some o)
 (hf:∀ b∈fp,gZ X Z H b/\b<s.heap.objs.size) (hHC:H C=none) (hfree:∀ b o,s.heap.get? b=some o->b≠C) :
 Inv (aR X scope N' cl C s H fp) [] (dY own.length js σ) H { s with heap:=h₁,toks:=tk }:=by
 have ltx:∀ b o,X.s₀.heap.get? b=some o->b∉X.ex->b∉fp:=fun b o e hx hb=>by
  rcases (hf b hb).1.2.2.2.1 with z|z
  ·exact hx z
  ·exact absurd (Nat.lt_of_lt_of_le (Heap.lt_size e) z) (Nat.lt_irrefl _)
 refine ⟨⟨I.ok.mod,S.kind,I.ok.glob,I.ok.blt,hC,fun x y c h1 h2=>I.ok.inj x y c (hc1 x c h1) (hc1 y c h2),fun x hx=>?_,fun x c z=>(nomatch z),I.ok.hd,I.ok.frames,.inl rfl,fun b hb=>⟨Nat.ne_of_lt (Nat.lt_of_lt_of_le (hf b hb).2 hC),fun x c e=>(hf b hb).1.2.2.2.2.1 x c (hc1 x c e)⟩,I.bs,Nat.le_trans I.ok.bsz I.sz,fun b o e=>ltx b o (I.ok.bs b o e).1 (I.ok.noex b o e),fun b hb z=>?_,I.stack,I.stkFree⟩,
  rfl,I.bare,Un.kept hk,⟨m,hns,fun i x v e1 e2 e3=>?_⟩,fun x c e=>?_,hHC,fun x c e=>I.freeC x c (hc1 x c e),fun p hp=>absurd (show p∈([]:List (Addr×Obj)) from hp) (by simp),I.hok.kept hk,?_⟩
 ·have hx':(relabel scope X.env).names.lookup x=some .cell∨(relabel scope X.env).names.lookup x=some .free:=hx
  rcases hx' with z|z
  ·exact hc2 x (lQ (PySem.mem_of_lookup z) (.inl rfl) S.nocell)
  ·exact hc2 x (lQ (PySem.mem_of_lookup z) (.inr rfl) S.nocell)
 ·obtain ⟨_,f1,f2,_⟩:=(hf b hb).1
  rcases List.mem_cons.mp (I.stkSub b z) with q|q
  ·exact f1 q
  ·exact f2 q
 ·
  unfold dY at e2
  by_cases hi:i<own.length
  ·rw [List.getElem?_append_left (by simpa using hi),List.getElem?_replicate] at e2
   split at e2 <;> cases e2
  ·rw [List.getElem?_append_right (by simpa using hi),List.length_replicate,List.getElem?_map] at e2
   cases ej:js[i-own.length]? with
   |none=>rw [ej] at e2;cases e2
   | some j=>
     rw [ej] at e2
     have e2':(σ[j]?).join=some v:=by simpa using e2
     have hσ:σ[j]?=some (some v):=by
      cases q:σ[j]? with
      |none=>rw [q] at e2';cases e2'
      |some o=>rw [q] at e2';exact congrArg some e2'
     have hj:=S.fr j (List.mem_of_getElem? ej)
     have hx:x=X.N.getD j Str.empty:=by
      have e1':N'[i]?=some x:=e1
      rw [S.nm,List.getElem?_append_right (by omega),List.getElem?_map,ej] at e1'
      exact (Option.some.inj e1').symm
     have hN:X.N[j]?=some x:=by
      rw [hx,List.getD_eq_getElem?_getD,List.getElem?_eq_getElem hj.1];rfl
     have hfr:scope.names.lookup x=some .free:=by rw [hx];exact lX hj.2.1 hj.2.2
     have hkx:=S.free (x,.free) (by rw [hx];exact hj.2.1) rfl
     have hvis:Rq X.env.scope x:=hkx.elim (fun z=>.inr (.inl z)) fun z=>.inr (.inr z)
     obtain ⟨mX,hnX,hlX⟩:=I.loc
     obtain ⟨u,r,l⟩:=hlX j x v hN hσ hvis
     refine ⟨u,r,.inr ⟨fX hfr,?_⟩⟩
     rcases l with ⟨z,_⟩|⟨_,c,hc,hcell⟩
     ·rcases hkx with q|q
      ·have:=q.symm.trans z;cases this
      ·have:=q.symm.trans z;cases this
     ·obtain ⟨c',hc'⟩:=hc2 x (by rw [hx];exact hj.2.1)
      have:c'=c:=Option.some.inj ((hc1 x c' hc').symm.trans hc)
      subst this
      obtain ⟨o,ho,hd⟩:=hcell
      exact ⟨c',hc',o,hk _ _ ho,hd⟩
 ·obtain ⟨v,o,ho,hd⟩:=I.cell x c (hc1 x c e)
  exact ⟨v,o,hk _ _ ho,hd⟩
 ·rw [ue]
  show _=N'.length
  rw [S.nm];simp
def jy (Y:Cx) (ifs:List Expr) (t:TT):Prop:=
 ∀ (Z:List (Addr×Obj)) (s:Shared) (σ:St) (H:Hp) (Q:Bool->Hp->Prop),Inv Y Z σ H s->t σ H Q->
   wpAny (model Y.prog Y.w) Y.A (forIn ifs true fun c r=>if r=true then do let ok ← isTrue c Y.env (eval c Y.env);pure (ForInStep.yield ok) else pure (ForInStep.yield r)) (TP Y Z σ Q) Y.xe s
def mH:TT:=fun _ H Q=>Q true H
theorem cI:jy Y [] mH:=fun _ _ _ H _ I h=>wpAny_tests_nil ⟨H,I,h⟩
theorem zm (h:PT Y c t):jy Y [c] t:=fun Z s σ H Q I hw=>wpAny_tests_one (h Z s σ H Q I hw)
abbrev bJ (us:List Value) (k:Nat):Obj:={ cls:=.type "list",data:=.seq us.toArray k }
def nR (J:It) (g:TG) (tt:TT) (te:TE) (F:List V->Hp->Prop) (W:Nat->Nat->List V->St->Hp->Prop):Prop:=
 ∀ i m ys σ H,W i m ys σ H->(J.stop i H/\F ys H)∨(J.go i H/\ys.length<sizeLine/\∀ x H1,J.yld i H x H1->g x σ H1 fun σ2 H2=>tt σ2 H2 fun b H3=>
   if b=true then te σ2 H3 fun y H4=>∃ m',m'<m/\W (i+1) m' (ys++[y]) σ2 H4 else ∃ m',m'<m/\W (i+1) m' ys σ2 H3)
theorem wQ
 (W : Nat->Nat->List V->St->Hp->Prop) (turn:nR J g tt te F W) (T:Turn X.prog X.w X.K tg J fp it tn)
    (hg:PG (aR X scope N' cl C s₂ H₂ fp) tg g) (hc:jy (aR X scope N' cl C s₂ H₂ fp) ifs tt) (he:PE (aR X scope N' cl C s₂ H₂ fp) elt te) (hcalm:X.calm=true)
    (hfp:∀ b∈fp,b≠C/\b∉frs X.stack/\(∀ x c,cl.lookup x=some c->c≠b)/\b≠acc) (hacc:acc≠C/\acc∉frs X.stack/\(∀ x c,cl.lookup x=some c->c≠acc)/\s₂.heap.objs.size≤acc)
    (hR:∀ s' σ' H' ys us k,Inv (aR X scope N' cl C s₂ H₂ fp) [(acc,bJ us k)] σ' H' s'->Vals ys us->F ys H'->R (.ok .next) s')
 (I : Inv (aR X scope N' cl C s₂ H₂ fp) [(acc,bJ [] 0)] σ H s) (st:tn 0 s.heap) (fr:∀ b∈fp,H b=none) (w0:W 0 m [] σ H) :
    codeAny (model X.prog X.w) X.A (.compLoop (.ListComp elt [⟨tg,iter,ifs,0⟩] scope pos) 0 (.ref it) (.ref acc) (compEnvC scope cl C X.env)) R s:=by
  refine codeAny_loop rfl (fun n s'=>∃ i ys us k σ' H',Vals ys us/\Inv (aR X scope N' cl C s₂ H₂ fp) [(acc,bJ us k)] σ' H' s'/\tn i s'.heap/\(∀ b∈fp,H' b=none)/\W i n ys σ' H') (fun n s3 hI=>?_) m ⟨0,[],[],0,σ,H,.nil,I,st,fr,w0⟩
  obtain ⟨i,ys,us,k,σ3,H3,rv,I3,st3,fr3,w3⟩:=hI
  show wpAny _ X.A ((compTurn (.ListComp elt [⟨tg,iter,ifs,0⟩] scope pos) 0 (.ref it) (.ref acc) (compEnvC scope cl C X.env)).onRaise (fun x=>do noteFrame x (compEnvC scope cl C X.env);theTreesLotGoes x)) _ _ s3
  refine wpAny_noted ?_
  rw [compTurn_list]
  have fpk:∀ {Z:List (Addr×Obj)} {H':Hp},(∀ p∈Z,p.1=acc∨p.1∈([]:List Addr))->(∀ b∈fp,H' b=none)->∀ b∈fp,gZ (aR X scope N' cl C s₂ H₂ fp) Z H' b:=fun hp hn b hb=>
   ⟨hn b hb,(hfp b hb).1,(hfp b hb).2.1,.inl hb,(hfp b hb).2.2.1,fun p hp'=>by
    have hp'':p∈([]:List (Addr×Obj))++_:=hp'
    rcases hp p (by simpa using hp'') with z|z
    ·rw [z];exact Ne.symm (hfp b hb).2.2.2
    ·exact (nomatch z)⟩
  have fp1:=fpk (Z:=[(acc,bJ us k)]) (fun p hp=>.inl (by simp at hp;rw [hp])) fr3
  refine wpAny_bind (wpAny_standAt (wpAny_bind ?_))
  rcases turn i n ys σ3 H3 w3 with ⟨stop,qn⟩|⟨go,hz,step⟩
  ·refine wpAny_mono (T.done (aR X scope N' cl C s₂ H₂ fp) rfl rfl rfl hcalm i _ s3 σ3 H3 (fun _ _=>False) I3 fp1 st3 stop) (fun r s4 ⟨hr,I4⟩=>?_) (fun _ _ z=>z.elim)
   subst hr
   exact wpAny_pure (hR s4 σ3 H3 ys us k I4 rv qn)
  ·refine wpAny_mono (T.item (aR X scope N' cl C s₂ H₂ fp) rfl rfl rfl hcalm i _ s3 σ3 H3 (fun _ _=>False) I3 fp1 st3 go) (fun r s4 ⟨u,hr,h4⟩=>?_) (fun _ _ z=>z.elim)
   subst hr
   refine wpAny_bind (wpAny_mono h4 (fun _ s5 ⟨x,H5,I5,r5,y5,st5,fr5⟩=>?_) (fun _ _ z=>z.elim))
   have fp5:=fpk (Z:=[(acc,bJ us k)]) (fun p hp=>.inl (by simp at hp;rw [hp])) fr5
   have I5':=I5.pinned fp5 (T.obj _ _ st5)
   refine wpAny_bind (wpAny_mono (hg _ s5 σ3 H5 x u _ I5' r5 (step x H5 y5)) (fun _ s6 ⟨σ6,H6,I6,q6⟩=>?_) (fun _ _ z=>z.elim))
   refine wpAny_bind (wpAny_mono (hc _ s6 σ6 H6 _ I6 q6) (fun ok s7 ⟨H7,I7,q7⟩=>?_) (fun _ _ z=>z.elim))
   have again:∀ {s8:Shared} {σ8:St} {H8:Hp} {us8:List Value} {k8:Nat} {ys8:List V},Inv (aR X scope N' cl C s₂ H₂ fp) ([(acc,bJ us k)]++gP fp s5.heap) σ8 H8 s8->tn (i+1) s8.heap/\∀ b∈fp,H8 b=none:=fun {s8 σ8 H8 us8 k8 ys8} I8=>
    ⟨T.keep _ _ _ st5 fun b hb o e=>(I8.pin (b,o) (List.mem_append_right _ (List.mem_append_right _ (cP hb e)))).1,fun b hb=>by
     obtain ⟨o,e,d⟩:=T.obj _ _ st5 b hb
     exact (I8.pin (b,o) (List.mem_append_right _ (List.mem_append_right _ (cP hb e)))).2.1⟩
   cases ok with
   | false=>
     rw [if_neg Bool.false_ne_true] at q7
     obtain ⟨m',hm,w7⟩:=q7
     obtain ⟨t1,t2⟩:=again (us8:=us) (k8:=k) (ys8:=ys) I7
     exact wpAny_pure ⟨rfl,m',hm,i+1,ys,us,k,σ6,H7,rv,I7.unpinned,t1,t2,w7⟩
   | true=>
     rw [if_pos rfl] at q7
     refine wpAny_bind (wpAny_bind (wpAny_mono (he _ s7 σ6 H7 _ I7 q7) (fun y s8 ⟨yv,H8,I8,r8,m',hm,w8⟩=>?_) (fun _ _ z=>z.elim)))
     obtain ⟨t1,t2⟩:=again (us8:=us) (k8:=k) (ys8:=ys) I8
     obtain ⟨e8,n8,l8,f8,d8⟩:=I8.pin (acc,bJ us k) (List.mem_append_right _ (List.mem_append_left _ List.mem_cons_self))
     have hlen:=rv.length
     have hz':us.toArray.size≤sizeLine:=by rw [List.size_toArray];omega
     refine wpAny_bind (call_meets PySem.F.slot_list_append ⟨_,e8,rfl⟩ PySem.F.entry_list_append (PySem.F.args_list_append_2 _ _) (PySem.list_append acc us.toArray k y hz') ⟨e8,?_⟩)
     have q:=PySem.IsL.update e8 (fun z=>z.push y)
     have I9:Inv (aR X scope N' cl C s₂ H₂ fp) [] σ6 H8 s8:=I8.pins_of fun p hp=>(nomatch hp)
     have I10:=I9.turned (t':=s8.toks) (it:=acc) (h':=s8.heap.update acc (Obj.mapSeq fun z=>z.push y)) (fun b o hb e=>(Heap.get?_update_other s8.heap _ (Ne.symm hb)).trans e) n8 hacc.1 (.inr hacc.2.2.2) hacc.2.2.1 (fun p hp=>(nomatch hp))
     have e':(us.toArray.push y)=(us++[y]).toArray:=by simp
     rw [e'] at q
     obtain ⟨k9,ek⟩:∃ k9,k9=(if ((us++[y]).toArray.size == us.toArray.size)=true then k else k+1):=⟨_,rfl⟩
     rw [← ek] at q
     have I11:=I10.pins_of (pins':=[(acc,bJ (us++[y]) k9)]) fun p hp=>by
      obtain rfl:p=(acc,bJ (us++[y]) k9):=by simpa using hp
      exact ⟨q,n8,hacc.1,hacc.2.1,fun v z=>by cases z⟩
     refine wpAny_pure (wpAny_pure ⟨rfl,m',hm,i+1,ys++[yv],us++[y],k9,σ6,H8,rv.append (.cons r8 .nil),I11,T.keep _ _ _ t1 fun b hb o e=>?_,t2,w8⟩)
     exact (Heap.get?_update_other s8.heap _ (hfp b hb).2.2.2.symm).trans e
def Gh (wi:TI) (g:TG) (tt:TT) (te:TE) (k:Nat) (js:List Nat):TE:=fun σ H Q=>wi σ H fun J H1=>∃ W:Nat->Nat->List V->St->Hp->Prop,(∃ m,W 0 m [] (dY k js σ) H1)/\
 nR J g tt te (fun ys H2=>ys.length≤sizeLine/\∀ p,H2 p=none->Q (.ref p) (upd H2 p (.lst ys))) W
theorem sJ {X:Cx} {scope:Scope} {own:List Str} {s:Shared} {tn:Nat->Heap->Prop} {cl:List (Str×Addr)} {F:List V->Hp->Prop} {RR:Value->Addr->Result->Shared->Prop}
 (S:bw X scope own js N') (hcalm:X.calm=true) (hg:∀ cl C s₀ H₀ ex,PG (aR X scope N' cl C s₀ H₀ ex) tg g) (hc:∀ cl C s₀ H₀ ex,jy (aR X scope N' cl C s₀ H₀ ex) ifs tt) (he:∀ cl C s₀ H₀ ex,PE (aR X scope N' cl C s₀ H₀ ex) elt te)
 (hc1:∀ x c,cl.lookup x=some c->X.env.cells.lookup x=some c) (hc2:∀ x,(x,NameKind.free)∈scope.names->∃ c,cl.lookup x=some c)
 (I:Inv X Z σ H s) (T:Turn X.prog X.w X.K tg J fp it tn) (st:tn 0 s.heap) (hf:∀ b∈fp,gZ X Z H b) (W:Nat->Nat->List V->St->Hp->Prop) (w0:W 0 m0 [] (dY own.length js σ) H) (turn:nR J g tt te F W)
 (hF:∀ ys H',F ys H'->ys.length≤sizeLine)
 (fin:∀ acc C H' ys s' m,Inv X Z σ (upd H' acc (.lst ys)) s'->H' acc=none->s'.heap.Ns C m->(upd H' acc (.lst ys)) C=none->C≠X.env.locals->X.s₀.heap.objs.size≤C->(∀ x c,X.env.cells.lookup x=some c->c≠C)->(∀ p∈X.pn++Z,p.1≠C)->F ys H'->RR (.ref acc) C (.ok .next) s') :
 wpAny (model X.prog X.w) X.A (newList []) (fun acc s₃=>wpAny (model X.prog X.w) X.A (newFunctionEnv scope X.env.globals cl [] X.env.qual none .none (some X.env)) (fun cenv s₄=>
  codeAny (model X.prog X.w) X.A (.compStart (.ListComp elt [⟨tg,iter,ifs,0⟩] scope pos) 0 (.ref it) acc { cenv with scope:=relabel scope X.env }) (RR acc cenv.locals) s₄) E s₃) E s:=by
 refine wpAny_newObj_type (wpAny_newFunctionEnv S.nocell (by intro y hy;simp at hy) (fun h₁ hns₁ hsb₁=>?_) S.kind)
 dsimp only at hns₁ hsb₁ ⊢
 generalize hH2:s.heap.push { cls:=.type "list",dict:=none,data:=.seq ([]:List Value).toArray }=H2 at hns₁ hsb₁ ⊢
 have hC:H2.objs.size=s.heap.objs.size+1:=by rw [← hH2,Heap.size_push]
 have hDC:s.heap.objs.size≠H2.objs.size:=by rw [hC];exact Nat.ne_of_lt (Nat.lt_succ_self _)
 have hCle:s.heap.objs.size≤H2.objs.size:=by rw [hC];exact Nat.le_succ _
 have below:∀ b,b<s.heap.objs.size->b≠H2.objs.size/\b≠s.heap.objs.size:=fun b hb=>⟨by rw [hC];exact Nat.ne_of_lt (Nat.lt_succ_of_lt hb),Nat.ne_of_lt hb⟩
 have old:∀ b o,s.heap.get? b=some o->h₁.get? b=some o:=fun b o e=>hsb₁.extBut b o (below b (Heap.lt_size e)).1 (Heap.get?_push_of_some _ (hH2 ▸ Heap.get?_push_of_some _ e))
 have hacc:h₁.get? s.heap.objs.size=some (bJ [] 0):=hsb₁.extBut _ _ hDC (Heap.get?_push_of_some _ (hH2 ▸ Heap.get?_push_size _ rfl))
 generalize hCn:H2.objs.size=C at *
 generalize hAn:s.heap.objs.size=acc at *
 have cellLt:∀ x c,X.env.cells.lookup x=some c->c<acc:=fun x c e=>by
  obtain ⟨v,q⟩:=I.cell x c e
  rw [← hAn];exact q.lt
 have pinLt:∀ p∈X.pn++Z,p.1<acc:=fun p hp=>by rw [← hAn];exact Heap.lt_size (I.pin p hp).1
 have stkLt:∀ b∈frs X.stack,b<acc:=fun b hb=>by
  obtain ⟨_,o,ho,_⟩:=I.stack.mem hb
  rw [← hAn];exact Heap.lt_size ho
 have fpLt:∀ b∈fp,b<acc:=fun b hb=>by
  obtain ⟨o,e,_⟩:=T.obj _ _ st b hb
  rw [← hAn];exact Heap.lt_size e
 have hHC:H C=none:=I.hok.fresh (by rw [hAn];exact hCle)
 have hHA:H acc=none:=I.hok.fresh (by rw [hAn];exact Nat.le_refl _)
 have I1:Inv (aR X scope N' cl C s H fp) [] (dY own.length js σ) H { s with heap:=h₁,toks:=s.toks+([]:List (Str×Value)).length }:=
  Inv.comp S I hc1 hc2 (by rw [hAn];exact hCle) hns₁ old (fun b hb=>⟨hf b hb,by rw [hAn];exact fpLt b hb⟩) hHC fun b o e=>(below b (by rw [← hAn];exact Heap.lt_size e)).1
 have I2:Inv (aR X scope N' cl C s H fp) [(acc,bJ [] 0)] (dY own.length js σ) H { s with heap:=h₁,toks:=s.toks+([]:List (Str×Value)).length }:=I1.pins_of fun p hp=>by
  obtain rfl:p=(acc,bJ [] 0):=by simpa using hp
  exact ⟨hacc,hHA,hDC,fun z=>absurd (stkLt acc z) (Nat.lt_irrefl _),fun v z=>by cases z⟩
 have st1:tn 0 h₁:=T.keep _ _ _ st fun b hb o e=>old b o e
 have loop:∀ s₃:Shared,s₃={ s with heap:=h₁,toks:=s.toks+([]:List (Str×Value)).length }->
  codeAny (model X.prog X.w) X.A (.compLoop (.ListComp elt [⟨tg,iter,ifs,0⟩] scope pos) 0 (.ref it) (.ref acc) (compEnvC scope cl C X.env)) (RR (.ref acc) C) s₃:=by
  rintro s₃ rfl
  refine wQ W turn T (hg _ _ _ _ _) (hc _ _ _ _ _) (he _ _ _ _ _) hcalm
   (fun b hb=>⟨(below b (fpLt b hb)).1,fun z=>?_,fun x c e z=>(hf b hb).2.2.2.2.1 x c (hc1 x c e) z,(below b (fpLt b hb)).2⟩)
   ⟨hDC,fun z=>absurd (stkLt acc z) (Nat.lt_irrefl _),fun x c e z=>absurd (cellLt x c (hc1 x c e)) (by rw [z];exact Nat.lt_irrefl _),by rw [hAn];exact Nat.le_refl _⟩ ?_ I2 st1 (fun b hb=>(hf b hb).1) w0
  ·rcases List.mem_cons.mp (I.stkSub b z) with q|q
   ·exact (hf b hb).2.1 q
   ·exact (hf b hb).2.2.1 q
  ·intro s' σ' H' ys us k J' rv q
   obtain ⟨e',n',l',f',d'⟩:=J'.pin (acc,bJ us k) (List.mem_append_right _ List.mem_cons_self)
   have n'':H' acc=none:=n'
   obtain ⟨m,hm,_⟩:=J'.loc
   have oldLt:∀ b o,s.heap.get? b=some o->b<acc:=fun b o e=>by rw [← hAn];exact Heap.lt_size e
   have neA:∀ b o,s.heap.get? b=some o->b≠acc:=fun b o e=>Nat.ne_of_lt (oldLt b o e)
   have un:Un (frs X.stack) fp H (upd H' acc (.lst ys)) s.heap s'.heap:=⟨J'.base.keep,J'.base.slot,fun b o e n hx=>by rw [aH (neA b o e)];exact J'.base.free b o e n hx,J'.base.there,
    fun b xs e=>by
     have z:=J'.base.tups b xs e
     rw [aH (aB z n'')];exact z,
    fun b o u e=>by
     have z:=J'.base.frzs b o u e
     rw [aH (aB z n'')];exact z,
    fun b ps e=>by
     obtain ⟨more,z⟩:=J'.base.tbls b ps e
     exact ⟨more,by rw [aH (aB z n'')];exact z⟩⟩
   have hok:jK X.prog X.w (upd H' acc (.lst ys)) s'.heap:=fun b u e=>by
    by_cases hb:b=acc
    ·subst hb
     rw [ao] at e;cases e
     exact ⟨hF _ _ q,us,k,rv,e'⟩
    ·rw [aH hb] at e
     exact (J'.hok b u e).stay (fun c v _ z=>z) (fun c z=>by rw [aH (aB z n'')];exact z) fun c xs z=>by rw [aH (aB z n'')];exact z
   have IX:Inv X Z σ (upd H' acc (.lst ys)) s':=I.call' J'.os un hok J'.bare fun b hb=>⟨(hf b hb).2.2.2.1,(hf b hb).2.1,(hf b hb).2.2.2.2.1,(hf b hb).2.2.2.2.2⟩
   refine fin acc C H' ys s' m IX n'' hm ?_ ?_ ?_ ?_ ?_ q
   ·rw [aH (Ne.symm hDC)];exact J'.free
   ·exact Nat.ne_of_gt (Nat.lt_of_lt_of_le I.lt (by rw [hAn];exact hCle))
   ·exact Nat.le_trans I.sz (by rw [hAn];exact hCle)
   ·exact fun x c e z=>absurd (Nat.lt_of_lt_of_le (cellLt x c e) hCle) (by rw [z];exact Nat.lt_irrefl _)
   ·exact fun p hp z=>absurd (Nat.lt_of_lt_of_le (pinLt p hp) hCle) (by rw [z];exact Nat.lt_irrefl _)
 exact codeAny_compStart_list (loop _ rfl) (T.self _ 0 _ _ _ st1 (loop _ rfl))
theorem fZ (S:bw X scope own js N') (hcalm:X.calm=true) (hi:PI X tg iter wi) (hg:∀ cl C s₀ H₀ ex,PG (aR X scope N' cl C s₀ H₀ ex) tg g) (hc:∀ cl C s₀ H₀ ex,jy (aR X scope N' cl C s₀ H₀ ex) ifs tt)
 (he:∀ cl C s₀ H₀ ex,PE (aR X scope N' cl C s₀ H₀ ex) elt te) (hs:∀ x,foldedSetIterable iter X.env x=pure x:=by intro _;rfl):PE X (.ListComp elt [⟨tg,iter,ifs,0⟩] scope pos) (Gh wi g tt te own.length js):=by
 intro Z s σ H Q I h
 obtain ⟨cl,hcl,hc1,hc2⟩:=iH (env:=X.env) scope fun y hy hk=>I.ok.has y.1 (S.free y hy hk)
 rw [eval_ListComp]
 refine wpAny_comprehension_free (use:=none) rfl hs hcl S.kind S.names (cz (hi Z s σ H _ I h) fun v s1 h1=>cz h1 fun itv s2 h2=>?_)
 obtain ⟨it,fp,tn,J,H2,e,I2,T,st2,f2,W,⟨m0,w0⟩,turn⟩:=h2
 subst e
 refine sJ (RR:=fun acc C=>compPost (model X.prog X.w) X.A X.xe none (EP X Z σ Q) acc C) S hcalm hg hc he hc1 hc2 I2 T st2 f2 W w0 turn (fun ys H' q=>q.1) ?_
 intro acc C H' ys s' m IX na hm hCn hL hz hcn hpn q
 refine ⟨m,hm,fun h' hs'=>⟨.ref acc,_,?_,rfl,q.2 acc na⟩⟩
 exact IX.turned (t':=s'.toks) (it:=C) (fun b o hb e=>(hs'.2 b hb).trans e) hCn hL (.inr hz) hcn hpn
theorem iC (S:bw X scope own js N') (hcalm:X.calm=true) (hN:X.N.Nodup) (hx:X.N[i]?=some x) (hk:X.env.scope.names.lookup x=some .local) (hi:PI X tg iter wi) (hg:∀ cl C s₀ H₀ ex,PG (aR X scope N' cl C s₀ H₀ ex) tg g) (hc:∀ cl C s₀ H₀ ex,jy (aR X scope N' cl C s₀ H₀ ex) ifs tt)
 (he:∀ cl C s₀ H₀ ex,PE (aR X scope N' cl C s₀ H₀ ex) elt te) (hsw:swapsWith (.ListComp elt [⟨tg,iter,ifs,0⟩] scope pos) (some (.Name x pos')) spos.line X.env=pure true:=by rfl) (hs:∀ x,foldedSetIterable iter X.env x=pure x:=by intro _;rfl) :
 PS X (.Assign [.Name x pos'] (.ListComp elt [⟨tg,iter,ifs,0⟩] scope pos) spos) (BL (Gh wi g tt te own.length js) (bh i)):=by
 intro Z s σ H D I h
 obtain ⟨cl,hcl,hc1,hc2⟩:=iH (env:=X.env) scope fun y hy hk=>I.ok.has y.1 (S.free y hy hk)
 rw [exec_Assign_Name_used _ _ _ _ hsw]
 refine wpAny_bind (wpAny_standAt (wpAny_bind ?_))
 show wpAny _ X.A (do let _ ← comprehension (.ListComp elt [⟨tg,iter,ifs,0⟩] scope pos) scope X.env _ (newList []) false (eval iter X.env) (some (assign (.Name x pos') X.env))) _ _ s
 refine wpAny_bind (wpAny_mono (wpAny_comprehension_free (use:=some (assign (.Name x pos') X.env)) (Q:=fun _ s'=>SP X Z D .next s') rfl hs hcl S.kind S.names
  (cz (hi Z s σ H _ I h) fun v s1 h1=>cz h1 fun itv s2 h2=>?_)) (fun _ s' hq=>wpAny_pure (wpAny_pure hq)) fun _ _ e=>e)
 obtain ⟨it,fp,tn,J,H2,e,I2,T,st2,f2,W,⟨m0,w0⟩,turn⟩:=h2
 subst e
 refine sJ (RR:=fun acc C=>compPost (model X.prog X.w) X.A X.xe (some (assign (.Name x pos') X.env)) (fun _ s'=>SP X Z D .next s') acc C) S hcalm hg hc he hc1 hc2 I2 T st2 f2 W w0 turn (fun ys H' q=>q.1) ?_
 intro acc C H' ys s' m IX na hm hCn hL hz hcn hpn q
 show wpAny _ X.A (assign (.Name x pos') X.env (.ref acc)) _ _ s'
 refine wpAny_assign_Name (lB IX hN hx (.inl hk) (v:=.ref acc) rfl (fun s'' I'' hsb=>?_) (.inr hk))
 obtain ⟨a,hsb,ha⟩:=hsb
 have haC:C≠a:=by
  rcases ha with z|z
  ·rw [z];exact hL
  ·exact fun q=>hcn x a z q.symm
 refine ⟨m,hm.sameBut hsb haC,fun h' hs'=>⟨_,_,?_,q.2 acc na⟩⟩
 exact I''.turned (t':=s''.toks) (it:=C) (fun b o hb e=>(hs'.2 b hb).trans e) hCn hL (.inr hz) hcn hpn
section
variable {X:Cx}
def O9 (i j:Int):Prop:=0<j/\j<340282366920938463463374607431768211456
theorem zc:iT X (binaryOp .FloorDiv) (rI O9 fun i j=>.int (i / j)):=Qs fun i j _ _ _ _ _ hc q=>by
 rw [← Int.fdiv_eq_ediv_of_nonneg i (Int.le_of_lt hc.1)] at q
 have h1:(0:Int)<j:=hc.1
 have h2:j<340282366920938463463374607431768211456:=hc.2
 have hb:j.natAbs<340282366920938463463374607431768211456:=by omega
 have he:(2:Nat) ^ 128=340282366920938463463374607431768211456:=by ext
 have hl:j.natAbs.log2<128:=(Nat.log2_lt (by omega)).mpr (Nat.lt_of_lt_of_eq hb he.symm)
 exact floordiv_int (by have:=hc.1;omega) q (.inl (PyProof.noPylong_of_log2 (by omega)))
theorem iJ {lo:Int} {n:Nat} {g:TG} {te:TE} {F:List V->Hp->Prop} {σ0:St} {H0:Hp} (Pv:Nat->List V->St->Hp->Prop) (hn:n≤sizeLine) (h0:Pv 0 [] σ0 H0)
 (hs:∀ i ys σ H,i<n->ys.length=i->Pv i ys σ H->∀ N:List V->St->Hp->Prop,(∀ ys' σ' H',ys'.length=i+1->Pv (i+1) ys' σ' H'->N ys' σ' H')->g (.int (lo+i)) σ H fun σ2 H2=>te σ2 H2 fun y H3=>N (ys++[y]) σ2 H3)
 (hd:∀ ys σ H,ys.length=n->Pv n ys σ H->F ys H) :
 ∃ W:Nat->Nat->List V->St->Hp->Prop,(∃ m,W 0 m [] σ0 H0)/\nR (Gw lo n) g mH te F W:=by
 refine ⟨fun i m ys σ H=>m=n-i/\i≤n/\ys.length=i/\Pv i ys σ H,⟨n,by simp,Nat.zero_le _,rfl,h0⟩,?_⟩
 rintro i m ys σ H ⟨rfl,hi,hl,p⟩
 by_cases hlt:i<n
 ·refine .inr ⟨hlt,by omega,fun x H' y=>?_⟩
  obtain ⟨e,y⟩:=y
  subst e y
  exact hs i ys σ _ hlt hl p (fun ys' σ' H'=>∃ m',m'<n-i/\m'=n-(i+1)/\i+1≤n/\ys'.length=i+1/\Pv (i+1) ys' σ' H') fun ys' σ' H' hl' q=>⟨n-(i+1),by omega,rfl,hlt,hl',q⟩
 ·have e:i=n:=by omega
  subst e
  exact .inl ⟨Nat.le_refl _,hd ys σ H hl p⟩
theorem jf {K:PySem.W.Frag} {a:Addr} {xs:List V} {g:TG} {te:TE} {F:List V->Hp->Prop} {σ0:St} {H0:Hp} (Pv:Nat->List V->St->Hp->Prop) (hn:xs.length≤sizeLine) (h0:Pv 0 [] σ0 H0) (hq:∀ i ys σ H,i≤xs.length->Pv i ys σ H->bD K H a xs)
 (hs:∀ i x ys σ H,xs[i]?=some x->ys.length=i->Pv i ys σ H->∀ N:List V->St->Hp->Prop,(∀ ys' σ' H',ys'.length=i+1->Pv (i+1) ys' σ' H'->N ys' σ' H')->g x σ H fun σ2 H2=>te σ2 H2 fun y H3=>N (ys++[y]) σ2 H3)
 (hd:∀ ys σ H,ys.length=xs.length->Pv xs.length ys σ H->F ys H) :
 ∃ W:Nat->Nat->List V->St->Hp->Prop,(∃ m,W 0 m [] σ0 H0)/\nR (G9 K a) g mH te F W:=by
 refine ⟨fun i m ys σ H=>m=xs.length-i/\i≤xs.length/\ys.length=i/\Pv i ys σ H,⟨xs.length,by simp,Nat.zero_le _,rfl,h0⟩,?_⟩
 rintro i m ys σ H ⟨rfl,hi,hl,p⟩
 have q:=hq i ys σ H hi p
 by_cases hlt:i<xs.length
 ·refine .inr ⟨⟨xs,xs[i],q,by simp [hlt]⟩,by omega,fun x H' y=>?_⟩
  obtain ⟨e,y⟩:=y
  subst e
  exact hs i x ys σ _ (y xs q) hl p (fun ys' σ' H'=>∃ m',m'<xs.length-i/\m'=xs.length-(i+1)/\i+1≤xs.length/\ys'.length=i+1/\Pv (i+1) ys' σ' H') fun ys' σ' H' hl' q=>⟨xs.length-(i+1),by omega,rfl,hlt,hl',q⟩
 ·have e:i=xs.length:=by omega
  subst e
  exact .inl ⟨⟨xs,q,Nat.le_refl _⟩,hd ys σ H hl p⟩
theorem i_ {K:PySem.W.Frag} {a:Addr} {xs:List V} {g:TG} {te:TE} {F:List V->Hp->Prop} {σ0:St} {H0:Hp} (Pv:Nat->List V->St->Hp->Prop) (hn:xs.length≤sizeLine) (h0:Pv 0 [] σ0 H0) (hq:∀ i ys σ H,i≤xs.length->Pv i ys σ H->bI K H a xs)
 (hs:∀ i x ys σ H,xs[i]?=some x->ys.length=i->Pv i ys σ H->∀ N:List V->St->Hp->Prop,(∀ ys' σ' H',ys'.length=i+1->Pv (i+1) ys' σ' H'->N ys' σ' H')->g x σ H fun σ2 H2=>te σ2 H2 fun y H3=>N (ys++[y]) σ2 H3)
 (hd:∀ ys σ H,ys.length=xs.length->Pv xs.length ys σ H->F ys H) :
 ∃ W:Nat->Nat->List V->St->Hp->Prop,(∃ m,W 0 m [] σ0 H0)/\nR (M8 K a) g mH te F W:=by
 refine ⟨fun i m ys σ H=>m=xs.length-i/\i≤xs.length/\ys.length=i/\Pv i ys σ H,⟨xs.length,by simp,Nat.zero_le _,rfl,h0⟩,?_⟩
 rintro i m ys σ H ⟨rfl,hi,hl,p⟩
 have q:=hq i ys σ H hi p
 by_cases hlt:i<xs.length
 ·refine .inr ⟨⟨xs,xs[i],q,by simp [hlt]⟩,by omega,fun x H' y=>?_⟩
  obtain ⟨e,y⟩:=y
  subst e
  exact hs i x ys σ _ (y xs q) hl p (fun ys' σ' H'=>∃ m',m'<xs.length-i/\m'=xs.length-(i+1)/\i+1≤xs.length/\ys'.length=i+1/\Pv (i+1) ys' σ' H') fun ys' σ' H' hl' q=>⟨xs.length-(i+1),by omega,rfl,hlt,hl',q⟩
 ·have e:i=xs.length:=by omega
  subst e
  exact .inl ⟨⟨xs,q,Nat.le_refl _⟩,hd ys σ H hl p⟩
structure cj (K:PySem.W.Frag) (mg:Str->Option Value) (x:Str) (st:Stmt) (ps:List Str) (f:Addr) (fd:FuncData):Prop where
 F:fK K x x st f fd
 mg:mg x=some (.ref f)
 b:Binds K fd ps []
def cZ (p:Addr) (H H':Hp):Prop:=∀ b o,H b=some o->b≠p->H' b=some o
theorem cZ.refl:cZ p H H:=fun _ _ h _=>h
theorem cZ.trans (a:cZ p H H1) (b:cZ p H1 H2):cZ p H H2:=fun c o h hc=>b c o (a c o h hc) hc
theorem cZ.upd:cZ p H (upd H p o):=fun b u h hb=>by rw [aH hb];exact h
theorem cZ.new (h:H q=none):cZ p H (L2.upd H q o):=fun b u e _=>by rw [aH (aB e h)];exact e
end
theorem j0 (M:St->Hp->Prop) (h2:∀ σ' H',M σ' H'->u D σ' H') (h1:∀ N:St->Hp->Prop,(∀ σ' H',M σ' H'->N σ' H')->t { D with nx:=N } σ H):Oa t u D σ H:=h1 (u D) h2
theorem az.new (h:H q=none):az H (upd H q o):=fun b u e=>by rw [aH (aB e h)];exact e
theorem az.but (h:az H H'):cZ p H H':=fun b o e _=>h b o e
theorem az.tup {K:PySem.W.Frag} {H H':Hp} {a:Addr} {xs:List V} (e:az H H') (h:bI K H a xs):bI K H' a xs:=by
 rcases h with (h|⟨o,h⟩)|h
 ·exact .inl (.inl (e _ _ h))
 ·exact .inl (.inr ⟨o,e _ _ h⟩)
 ·exact .inr h
theorem cM:bootBuiltins "len" = some (.builtin "len"):=by ext
theorem qw:bootBuiltins "list" = some (.type "list"):=by ext
theorem iw:bootBuiltins "tuple" = some (.type "tuple"):=by ext
theorem mJ:bootBuiltins "str" = some (.type "str"):=by ext
theorem lC:bootBuiltins "int" = some (.type "int"):=by ext
theorem eY:bootBuiltins "bool" = some (.type "bool"):=by ext
theorem Ha:bootBuiltins "max" = some (.builtin "max"):=by ext
theorem Al:bootBuiltins "all" = some (.builtin "all"):=by ext
theorem aV:bootBuiltins "isinstance" = some (.builtin "isinstance"):=by ext
theorem zL:bootBuiltins "sum" = some (.builtin "sum"):=by ext
theorem xJ:bootBuiltins "sorted" = some (.builtin "sorted"):=by ext
end L2
namespace L2
open PySem PySem.Spec PyProof.Rows PySem.SeqAt
mutual
inductive Rep (K:PySem.W.Frag) (H:Hp):V->PyData->Prop
 |non:Rep K H .non .none
 |bl (b:Bool):Rep K H (.bl b) (.bool b)
 |int (i:Int):Rep K H (.int i) (.int i)
 |str (x:Str):Rep K H (.str x) (.str x)
 |tup {a:Addr} {xs:List V} {ds:List PyData}:bI K H a xs->bF K H xs ds->Rep K H (.ref a) (.tuple ds)
 |lst {a:Addr} {xs:List V} {ds:List PyData}:bD K H a xs->bF K H xs ds->Rep K H (.ref a) (.list ds)
inductive bF (K:PySem.W.Frag) (H:Hp):List V->List PyData->Prop
 |nil:bF K H [] []
 |cons {x:V} {d:PyData} {xs:List V} {ds:List PyData}:Rep K H x d->bF K H xs ds->bF K H (x::xs) (d::ds)
end
section
variable {K:PySem.W.Frag} {H H':Hp}
theorem bF.length:∀ {xs:List V} {ds:List PyData},bF K H xs ds->xs.length=ds.length
 |_,_,.nil=>rfl
 |_,_,.cons _ t=>by rw [List.length_cons,List.length_cons,bF.length t]
mutual
theorem Rep.map (f1:∀ a xs,bI K H a xs->bI K H' a xs) (f2:∀ a xs,bD K H a xs->bD K H' a xs):∀ {v:V} {d:PyData},Rep K H v d->Rep K H' v d
 |_,_,.non=>.non
 |_,_,.bl b=>.bl b
 |_,_,.int i=>.int i
 |_,_,.str x=>.str x
 |_,_,.tup h r=>.tup (f1 _ _ h) (bF.map f1 f2 r)
 |_,_,.lst h r=>.lst (f2 _ _ h) (bF.map f1 f2 r)
theorem bF.map (f1:∀ a xs,bI K H a xs->bI K H' a xs) (f2:∀ a xs,bD K H a xs->bD K H' a xs):∀ {v:List V} {d:List PyData},bF K H v d->bF K H' v d
 |_,_,.nil=>.nil
 |_,_,.cons h r=>.cons (Rep.map f1 f2 h) (bF.map f1 f2 r)
end
theorem Rep.same (h:Rep K H v d) (e:az H H'):Rep K H' v d:=h.map (fun _ _ z=>e.tup z) (fun _ _ z=>e.seq z)
theorem bF.same (h:bF K H v d) (e:az H H'):bF K H' v d:=h.map (fun _ _ z=>e.tup z) (fun _ _ z=>e.seq z)
theorem cZ.seq (e:cZ p H H') (hp:H p=some (.dK kvs)) (h:bD K H a xs):bD K H' a xs:=by
 rcases h with (h|⟨o,h⟩)|h
 ·exact .inl (.inl (e _ _ h (fc h hp (by intro z;cases z))))
 ·exact .inl (.inr ⟨o,e _ _ h (fc h hp (by intro z;cases z))⟩)
 ·exact .inr h
theorem cZ.tup (e:cZ p H H') (hp:H p=some (.dK kvs)) (h:bI K H a xs):bI K H' a xs:=by
 rcases h with (h|⟨o,h⟩)|h
 ·exact .inl (.inl (e _ _ h (fc h hp (by intro z;cases z))))
 ·exact .inl (.inr ⟨o,e _ _ h (fc h hp (by intro z;cases z))⟩)
 ·exact .inr h
theorem Rep.but (h:Rep K H v d) (e:cZ p H H') (hp:H p=some (.dK kvs)):Rep K H' v d:=h.map (fun _ _ z=>e.tup hp z) (fun _ _ z=>e.seq hp z)
theorem bF.get:∀ {xs:List V} {ds:List PyData} {i:Nat} {d:PyData},bF K H xs ds->ds[i]?=some d->∃ x,xs[i]?=some x/\Rep K H x d
 |_,_,_,_,.nil,e=>by simp at e
 |_,_,0,_,.cons r _,e=>by simp at e;subst e;exact ⟨_,rfl,r⟩
 | _,_,i+1,d,.cons _ t,e=>by
   obtain ⟨u,h1,h2⟩:=bF.get (i:=i) (d:=d) t (by simpa using e)
   exact ⟨u,by simpa using h1,h2⟩
theorem bF.get':∀ {xs:List V} {ds:List PyData} {i:Nat} {x:V},bF K H xs ds->xs[i]?=some x->∃ d,ds[i]?=some d/\Rep K H x d
 |_,_,_,_,.nil,e=>by simp at e
 |_,_,0,_,.cons r _,e=>by simp at e;subst e;exact ⟨_,rfl,r⟩
 | _,_,i+1,d,.cons _ t,e=>by
   obtain ⟨u,h1,h2⟩:=bF.get' (i:=i) (x:=d) t (by simpa using e)
   exact ⟨u,by simpa using h1,h2⟩
end
mutual
def cu:PyData->PyData->Bool
 |.none,.none=>true
 |.bool a,.bool b=>a == b
 |.bool a,.int b=>(if a then 1 else 0) == b
 |.int a,.bool b=>a == (if b then 1 else 0)
 |.int a,.int b=>a == b
 |.str a,.str b=>a == b
 |.tuple a,.tuple b=>di a b
 |.list a,.list b=>di a b
 |_,_=>false
def di:List PyData->List PyData->Bool
 |[],[]=>true
 |a::r,b::t=>cu a b && di r t
 |_,_=>false
end
theorem oJ:∀ (ds es:List PyData),di ds es=((List.range (min ds.length es.length)).all (fun j=>cu (ds.getD j .none) (es.getD j .none)) && ds.length == es.length)
 |[],[]=>by simp [di]
 |[],_::_=>by simp [di]
 |_::_,[]=>by simp [di]
 | a::r,b::t=>by
   rw [di,oJ r t,List.length_cons,List.length_cons,Nat.succ_min_succ,List.range_succ_eq_map,List.all_cons,List.all_map]
   simp only [List.getD_cons_zero,Bool.and_assoc]
   congr 1
   have e:(r.length+1 == t.length+1)=(r.length == t.length):=by
    rw [Bool.eq_iff_iff];simp
   rw [e]
   congr 1
mutual
def cR:PyData->Nat
 |.tuple xs=>bK xs+1
 |.list xs=>bK xs+1
 |_=>0
def bK:List PyData->Nat
 |[]=>0
 |d::r=>max (cR d) (bK r)
end
section
variable {X:Cx} {Z:List (Addr×Obj)} {σ:St} {H:Hp} {s:Shared}
mutual
theorem Rep.fn (I:Inv X Z σ H s):∀ {v:V} {d e:PyData} {u:Value},Rep X.K H v d->Rep X.K H v e->RelV v u->d=e/\cu d d=true
 |_,_,_,_,.non,.non,_=>⟨rfl,rfl⟩
 |_,_,_,_,.bl b,.bl _,_=>⟨rfl,by simp [cu]⟩
 |_,_,_,_,.int i,.int _,_=>⟨rfl,by simp [cu]⟩
 |_,_,_,_,.str x,.str _,_=>⟨rfl,by simp [cu]⟩
 | _,_,_,_,.tup h1 r1,.tup h2 r2,r=>by
   have e:=I.tuple_inj h1 h2
   subst e
   obtain ⟨its,rv,_,_⟩:=I.tuple h1
   obtain ⟨e,q⟩:=bF.fn I r1 r2 rv
   exact ⟨by rw [e],q⟩
 | _,_,_,_,.lst h1 r1,.lst h2 r2,r=>by
   have e:=I.list_inj h1 h2
   subst e
   obtain ⟨its,rv,_,_⟩:=I.list h1
   obtain ⟨e,q⟩:=bF.fn I r1 r2 rv
   exact ⟨by rw [e],q⟩
 | _,_,_,_,.tup h1 _,.lst h2 _,r=>by
   obtain ⟨_,_,⟨o,e1,c1,_⟩,_⟩:=I.tuple h1
   obtain ⟨_,_,⟨o',n,e2,c2,_⟩,_⟩:=I.list h2
   rw [e1] at e2;cases e2
   rw [c1] at c2;injection c2 with z;exact absurd z (by decide)
 | _,_,_,_,.lst h2 _,.tup h1 _,r=>by
   obtain ⟨_,_,⟨o,e1,c1,_⟩,_⟩:=I.tuple h1
   obtain ⟨_,_,⟨o',n,e2,c2,_⟩,_⟩:=I.list h2
   rw [e1] at e2;cases e2
   rw [c1] at c2;injection c2 with z;exact absurd z (by decide)
theorem bF.fn (I:Inv X Z σ H s):∀ {v:List V} {d e:List PyData} {u:List Value},bF X.K H v d->bF X.K H v e->Vals v u->d=e/\di d d=true
 |_,_,_,_,.nil,.nil,_=>⟨rfl,rfl⟩
 | _,_,_,_,.cons a b,.cons c d,.cons r rs=>by
   obtain ⟨e1,q1⟩:=Rep.fn I a c r
   obtain ⟨e2,q2⟩:=bF.fn I b d rs
   exact ⟨by rw [e1,e2],by simp [di,q1,q2]⟩
end
theorem z7 {ds es:List PyData} {us xs:List Value} {A:Around} (rs1:bF X.K H vs ds) (rs2:bF X.K H ws es) (rv1:Vals vs us) (rv2:Vals ws xs) :
 ((List.range (min us.toArray.size xs.toArray.size)).all (fun j=>cu (ds.getD j .none) (es.getD j .none)) && us.toArray.size == xs.toArray.size)=di ds es:=by
 rw [oJ,List.size_toArray,List.size_toArray,← rv1.length,← rv2.length,rs1.length,rs2.length]
theorem X7 {ds es:List PyData} {us xs:List Value} {A:Around} (rs1:bF X.K H vs ds) (rs2:bF X.K H ws es) (rv1:Vals vs us) (rv2:Vals ws xs) (p1:IsTup s.heap l us.toArray) (p2:IsTup s.heap b xs.toArray) (hu:A.units<cLine)
 (he:∀ j (h1:j<us.length) (h2:j<xs.length),EqAt A.in1 s us[j] xs[j] (cu (ds.getD j .none) (es.getD j .none))):RcAt A s (.ref l) (.ref b) (cu (.tuple ds) (.tuple es)):=by
 show RcAt A s (.ref l) (.ref b) (di ds es)
 rw [← z7 (A:=A) rs1 rs2 rv1 rv2]
 exact RcAt.tuples (show s.heap.IsTuple l us.toArray from p1) (show s.heap.IsTuple b xs.toArray from p2) hu fun j h1 h2=>by simpa using he j (by simpa using h1) (by simpa using h2)
theorem XR {ds es:List PyData} {us xs:List Value} {A:Around} (rs1:bF X.K H vs ds) (rs2:bF X.K H ws es) (rv1:Vals vs us) (rv2:Vals ws xs) (p1:s.heap.IsList l us.toArray) (p2:s.heap.IsList b xs.toArray) (hu:A.units<cLine)
 (he:∀ j (h1:j<us.length) (h2:j<xs.length),EqAt A.in1 s us[j] xs[j] (cu (ds.getD j .none) (es.getD j .none))):RcAt A s (.ref l) (.ref b) (cu (.list ds) (.list es)):=by
 show RcAt A s (.ref l) (.ref b) (di ds es)
 have q:=z7 (A:=A) rs1 rs2 rv1 rv2
 by_cases hz:us.toArray.size=xs.toArray.size
 ·rw [← q,hz,Nat.min_self,beq_self_eq_true,Bool.and_true,← hz]
  exact RcAt.lists p1 p2 hz hu fun j h1 h2=>by simpa using he j (by simpa using h1) (by simpa using h2)
 ·have e:di ds es=false:=by
   rw [← q]
   have:(us.toArray.size == xs.toArray.size)=false:=by simpa using hz
   rw [this,Bool.and_false]
  rw [e]
  exact RcAt.lists_lengths p1 p2 (by simpa using hz) hu
theorem eqT (I:Inv X Z σ H s) (h1:bI X.K H l vs) (h2:bI X.K H b ws) (rs1:bF X.K H vs ds) (rs2:bF X.K H ws es) (rv1:Vals vs us) (rv2:Vals ws xs) (p1:IsTup s.heap l us.toArray) (p2:IsTup s.heap b xs.toArray) (hu:A.units<cLine)
 (he:∀ j (h1:j<us.length) (h2:j<xs.length),EqAt A.in1 s us[j] xs[j] (cu (ds.getD j .none) (es.getD j .none))):EqAt A s (.ref l) (.ref b) (cu (.tuple ds) (.tuple es)):=by
 by_cases hlb:l=b
 ·subst hlb
  obtain ⟨e,q⟩:=Rep.fn I (.tup h1 rs1) (.tup h2 rs2) (u:=.ref l) rfl
  rw [← e,q]
  exact EqAt.same _
 ·exact EqAt.of_refs hlb (X7 rs1 rs2 rv1 rv2 p1 p2 hu he)
theorem Xa (I:Inv X Z σ H s) (h1:bD X.K H l vs) (h2:bD X.K H b ws) (rs1:bF X.K H vs ds) (rs2:bF X.K H ws es) (rv1:Vals vs us) (rv2:Vals ws xs) (p1:s.heap.IsList l us.toArray) (p2:s.heap.IsList b xs.toArray) (hu:A.units<cLine)
 (he:∀ j (h1:j<us.length) (h2:j<xs.length),EqAt A.in1 s us[j] xs[j] (cu (ds.getD j .none) (es.getD j .none))):EqAt A s (.ref l) (.ref b) (cu (.list ds) (.list es)):=by
 by_cases hlb:l=b
 ·subst hlb
  obtain ⟨e,q⟩:=Rep.fn I (.lst h1 rs1) (.lst h2 rs2) (u:=.ref l) rfl
  rw [← e,q]
  exact EqAt.same _
 ·exact EqAt.of_refs hlb (XR rs1 rs2 rv1 rv2 p1 p2 hu he)
theorem iW {A:Around} (h:A.units+n<cLine):A.units<cLine:=by omega
theorem hu0 {A:Around} (h:A.units+(n+1)<cLine):A.units<cLine:=by omega
theorem hu1 {A:Around} (h:A.units+(n+1)<cLine):A.in1.units+n<cLine:=by show A.units+1+n<cLine;omega
mutual
theorem FW (I:Inv X Z σ H s):∀ {v w:V} {d e:PyData} {u x:Value} {A:Around},Rep X.K H v d->Rep X.K H w e->RelV v u->RelV w x->A.units+cR d<cLine->EqAt A s u x (cu d e)
 | _,_,_,_,u,x,A,.non,.non,r1,r2,hu=>by
   cases (show u=Value.none from r1)
   cases (show x=Value.none from r2)
   exact EqAt.same _
 | _,_,_,_,u,x,A,.non,.bl b2,r1,r2,hu=>by
   cases (show u=Value.none from r1)
   cases (show x=Value.bool b2 from r2)
   exact EqAt.none_bool b2
 | _,_,_,_,u,x,A,.non,.int i2,r1,r2,hu=>by
   cases (show u=Value.none from r1)
   obtain ⟨t2,e2⟩:=(show ∃ t,x=Value.int i2 t from r2);subst e2
   exact EqAt.none_int i2 t2
 | _,_,_,_,u,x,A,.non,.str y2,r1,r2,hu=>by
   cases (show u=Value.none from r1)
   obtain ⟨t2,e2⟩:=(show ∃ t,x=Value.str y2 t from r2);subst e2
   exact EqAt.none_str y2 t2
 | _,_,_,_,u,x,A,.non,.lst h2 rs2,r1,r2,hu=>by
   cases (show u=Value.none from r1)
   cases (show x=Value.ref _ from r2);obtain ⟨its2,rv2,p2,_⟩:=I.list h2
   exact EqAt.none_list p2.isList (iW hu)
 | _,_,_,_,u,x,A,.non,.tup h2 rs2,r1,r2,hu=>by
   cases (show u=Value.none from r1)
   cases (show x=Value.ref _ from r2);obtain ⟨its2,rv2,p2,_⟩:=I.tuple h2
   exact EqAt.none_tuple p2 (iW hu)
 | _,_,_,_,u,x,A,.bl b1,.non,r1,r2,hu=>by
   cases (show u=Value.bool b1 from r1)
   cases (show x=Value.none from r2)
   exact EqAt.bool_none b1
 | _,_,_,_,u,x,A,.bl b1,.bl b2,r1,r2,hu=>by
   cases (show u=Value.bool b1 from r1)
   cases (show x=Value.bool b2 from r2)
   exact EqAt.bool_bool b1 b2
 | _,_,_,_,u,x,A,.bl b1,.int i2,r1,r2,hu=>by
   cases (show u=Value.bool b1 from r1)
   obtain ⟨t2,e2⟩:=(show ∃ t,x=Value.int i2 t from r2);subst e2
   exact EqAt.bool_int b1 i2 t2
 | _,_,_,_,u,x,A,.bl b1,.str y2,r1,r2,hu=>by
   cases (show u=Value.bool b1 from r1)
   obtain ⟨t2,e2⟩:=(show ∃ t,x=Value.str y2 t from r2);subst e2
   exact EqAt.bool_str b1 y2 t2
 | _,_,_,_,u,x,A,.bl b1,.lst h2 rs2,r1,r2,hu=>by
   cases (show u=Value.bool b1 from r1)
   cases (show x=Value.ref _ from r2);obtain ⟨its2,rv2,p2,_⟩:=I.list h2
   exact EqAt.bool_list b1 p2.isList (iW hu)
 | _,_,_,_,u,x,A,.bl b1,.tup h2 rs2,r1,r2,hu=>by
   cases (show u=Value.bool b1 from r1)
   cases (show x=Value.ref _ from r2);obtain ⟨its2,rv2,p2,_⟩:=I.tuple h2
   exact EqAt.bool_tuple b1 p2 (iW hu)
 | _,_,_,_,u,x,A,.int i1,.non,r1,r2,hu=>by
   obtain ⟨t1,e1⟩:=(show ∃ t,u=Value.int i1 t from r1);subst e1
   cases (show x=Value.none from r2)
   exact EqAt.int_none i1 t1
 | _,_,_,_,u,x,A,.int i1,.bl b2,r1,r2,hu=>by
   obtain ⟨t1,e1⟩:=(show ∃ t,u=Value.int i1 t from r1);subst e1
   cases (show x=Value.bool b2 from r2)
   exact EqAt.int_bool i1 t1 b2
 | _,_,_,_,u,x,A,.int i1,.int i2,r1,r2,hu=>by
   obtain ⟨t1,e1⟩:=(show ∃ t,u=Value.int i1 t from r1);subst e1
   obtain ⟨t2,e2⟩:=(show ∃ t,x=Value.int i2 t from r2);subst e2
   exact EqAt.int_int i1 t1 i2 t2
 | _,_,_,_,u,x,A,.int i1,.str y2,r1,r2,hu=>by
   obtain ⟨t1,e1⟩:=(show ∃ t,u=Value.int i1 t from r1);subst e1
   obtain ⟨t2,e2⟩:=(show ∃ t,x=Value.str y2 t from r2);subst e2
   exact EqAt.int_str i1 t1 y2 t2
 | _,_,_,_,u,x,A,.int i1,.lst h2 rs2,r1,r2,hu=>by
   obtain ⟨t1,e1⟩:=(show ∃ t,u=Value.int i1 t from r1);subst e1
   cases (show x=Value.ref _ from r2);obtain ⟨its2,rv2,p2,_⟩:=I.list h2
   exact EqAt.int_list i1 t1 p2.isList (iW hu)
 | _,_,_,_,u,x,A,.int i1,.tup h2 rs2,r1,r2,hu=>by
   obtain ⟨t1,e1⟩:=(show ∃ t,u=Value.int i1 t from r1);subst e1
   cases (show x=Value.ref _ from r2);obtain ⟨its2,rv2,p2,_⟩:=I.tuple h2
   exact EqAt.int_tuple i1 t1 p2 (iW hu)
 | _,_,_,_,u,x,A,.str y1,.non,r1,r2,hu=>by
   obtain ⟨t1,e1⟩:=(show ∃ t,u=Value.str y1 t from r1);subst e1
   cases (show x=Value.none from r2)
   exact EqAt.str_none y1 t1
 | _,_,_,_,u,x,A,.str y1,.bl b2,r1,r2,hu=>by
   obtain ⟨t1,e1⟩:=(show ∃ t,u=Value.str y1 t from r1);subst e1
   cases (show x=Value.bool b2 from r2)
   exact EqAt.str_bool y1 t1 b2
 | _,_,_,_,u,x,A,.str y1,.int i2,r1,r2,hu=>by
   obtain ⟨t1,e1⟩:=(show ∃ t,u=Value.str y1 t from r1);subst e1
   obtain ⟨t2,e2⟩:=(show ∃ t,x=Value.int i2 t from r2);subst e2
   exact EqAt.str_int y1 t1 i2 t2
 | _,_,_,_,u,x,A,.str y1,.str y2,r1,r2,hu=>by
   obtain ⟨t1,e1⟩:=(show ∃ t,u=Value.str y1 t from r1);subst e1
   obtain ⟨t2,e2⟩:=(show ∃ t,x=Value.str y2 t from r2);subst e2
   exact EqAt.str_str y1 t1 y2 t2
 | _,_,_,_,u,x,A,.str y1,.lst h2 rs2,r1,r2,hu=>by
   obtain ⟨t1,e1⟩:=(show ∃ t,u=Value.str y1 t from r1);subst e1
   cases (show x=Value.ref _ from r2);obtain ⟨its2,rv2,p2,_⟩:=I.list h2
   exact EqAt.str_list y1 t1 p2.isList (iW hu)
 | _,_,_,_,u,x,A,.str y1,.tup h2 rs2,r1,r2,hu=>by
   obtain ⟨t1,e1⟩:=(show ∃ t,u=Value.str y1 t from r1);subst e1
   cases (show x=Value.ref _ from r2);obtain ⟨its2,rv2,p2,_⟩:=I.tuple h2
   exact EqAt.str_tuple y1 t1 p2 (iW hu)
 | _,_,_,_,u,x,A,.lst h1 rs1,.non,r1,r2,hu=>by
   cases (show u=Value.ref _ from r1);obtain ⟨its1,rv1,p1,_⟩:=I.list h1
   cases (show x=Value.none from r2)
   exact EqAt.list_none p1.isList (iW hu)
 | _,_,_,_,u,x,A,.lst h1 rs1,.bl b2,r1,r2,hu=>by
   cases (show u=Value.ref _ from r1);obtain ⟨its1,rv1,p1,_⟩:=I.list h1
   cases (show x=Value.bool b2 from r2)
   exact EqAt.list_bool b2 p1.isList (iW hu)
 | _,_,_,_,u,x,A,.lst h1 rs1,.int i2,r1,r2,hu=>by
   cases (show u=Value.ref _ from r1);obtain ⟨its1,rv1,p1,_⟩:=I.list h1
   obtain ⟨t2,e2⟩:=(show ∃ t,x=Value.int i2 t from r2);subst e2
   exact EqAt.list_int i2 t2 p1.isList (iW hu)
 | _,_,_,_,u,x,A,.lst h1 rs1,.str y2,r1,r2,hu=>by
   cases (show u=Value.ref _ from r1);obtain ⟨its1,rv1,p1,_⟩:=I.list h1
   obtain ⟨t2,e2⟩:=(show ∃ t,x=Value.str y2 t from r2);subst e2
   exact EqAt.list_str y2 t2 p1.isList (iW hu)
 | _,_,_,_,u,x,A,.lst h1 rs1,.lst h2 rs2,r1,r2,hu=>by
   cases (show u=Value.ref _ from r1);obtain ⟨its1,rv1,p1,_⟩:=I.list h1
   cases (show x=Value.ref _ from r2);obtain ⟨its2,rv2,p2,_⟩:=I.list h2
   exact Xa I h1 h2 rs1 rs2 rv1 rv2 p1.isList p2.isList (hu0 hu) (p_ I rs1 rs2 rv1 rv2 (hu1 hu))
 | _,_,_,_,u,x,A,.lst h1 rs1,.tup h2 rs2,r1,r2,hu=>by
   cases (show u=Value.ref _ from r1);obtain ⟨its1,rv1,p1,_⟩:=I.list h1
   cases (show x=Value.ref _ from r2);obtain ⟨its2,rv2,p2,_⟩:=I.tuple h2
   exact EqAt.list_tuple p1.isList p2 (iW hu)
 | _,_,_,_,u,x,A,.tup h1 rs1,.non,r1,r2,hu=>by
   cases (show u=Value.ref _ from r1);obtain ⟨its1,rv1,p1,_⟩:=I.tuple h1
   cases (show x=Value.none from r2)
   exact EqAt.tuple_none p1 (iW hu)
 | _,_,_,_,u,x,A,.tup h1 rs1,.bl b2,r1,r2,hu=>by
   cases (show u=Value.ref _ from r1);obtain ⟨its1,rv1,p1,_⟩:=I.tuple h1
   cases (show x=Value.bool b2 from r2)
   exact EqAt.tuple_bool b2 p1 (iW hu)
 | _,_,_,_,u,x,A,.tup h1 rs1,.int i2,r1,r2,hu=>by
   cases (show u=Value.ref _ from r1);obtain ⟨its1,rv1,p1,_⟩:=I.tuple h1
   obtain ⟨t2,e2⟩:=(show ∃ t,x=Value.int i2 t from r2);subst e2
   exact EqAt.tuple_int i2 t2 p1 (iW hu)
 | _,_,_,_,u,x,A,.tup h1 rs1,.str y2,r1,r2,hu=>by
   cases (show u=Value.ref _ from r1);obtain ⟨its1,rv1,p1,_⟩:=I.tuple h1
   obtain ⟨t2,e2⟩:=(show ∃ t,x=Value.str y2 t from r2);subst e2
   exact EqAt.tuple_str y2 t2 p1 (iW hu)
 | _,_,_,_,u,x,A,.tup h1 rs1,.lst h2 rs2,r1,r2,hu=>by
   cases (show u=Value.ref _ from r1);obtain ⟨its1,rv1,p1,_⟩:=I.tuple h1
   cases (show x=Value.ref _ from r2);obtain ⟨its2,rv2,p2,_⟩:=I.list h2
   exact EqAt.tuple_list p1 p2.isList (iW hu)
 | _,_,_,_,u,x,A,.tup h1 rs1,.tup h2 rs2,r1,r2,hu=>by
   cases (show u=Value.ref _ from r1);obtain ⟨its1,rv1,p1,_⟩:=I.tuple h1
   cases (show x=Value.ref _ from r2);obtain ⟨its2,rv2,p2,_⟩:=I.tuple h2
   exact eqT I h1 h2 rs1 rs2 rv1 rv2 p1 p2 (hu0 hu) (p_ I rs1 rs2 rv1 rv2 (hu1 hu))
theorem p_ (I:Inv X Z σ H s):∀ {vs ws:List V} {ds es:List PyData} {us xs:List Value} {A:Around},bF X.K H vs ds->bF X.K H ws es->Vals vs us->Vals ws xs->A.units+bK ds<cLine->
 ∀ j (h1:j<us.length) (h2:j<xs.length),EqAt A s us[j] xs[j] (cu (ds.getD j .none) (es.getD j .none))
 |_,_,_,_,_,_,_,.nil,_,.nil,_,_,j,h1,_=>absurd h1 (Nat.not_lt_zero _)
 |_,_,_,_,_,_,_,.cons _ _,.nil,.cons _ _,.nil,_,j,_,h2=>absurd h2 (Nat.not_lt_zero _)
 |_,_,_,_,_,_,_,.cons a b,.cons c d,.cons r rs,.cons t ts,hu,0,_,_=>FW I a c r t (by simp only [bK] at hu;simp only [List.getD_cons_zero];omega)
 |_,_,_,_,_,_,_,.cons a b,.cons c d,.cons r rs,.cons t ts,hu,j+1,h1,h2=>p_ I b d rs ts (by simp only [bK] at hu;omega) j (by simpa using h1) (by simpa using h2)
end
end
theorem kJ:∀ {es:List PyData},e∈es->cR e≤bK es
 |_::_,.head _=>by simp only [bK];omega
 |_::r,.tail _ h=>by have:=kJ h;simp only [bK];omega
def Tf:PyData->String
 |.none=>"NoneType"
 |.bool _=>"bool"
 |.int _=>"int"
 |.str _=>"str"
 |.list _=>"list"
 |.tuple _=>"tuple"
 |.dict _=>"dict"
theorem isD (I:Inv X Z σ H s) (r:Rep X.K H v d) (rv:RelV v u)
 (e:PySem.W.kitOne X.K (.type (Tf d)) c=some b) (h:∀ tk,Q (.bool b) { s with toks:=tk }):wpAny (model X.prog X.w) A (call (.builtin "isinstance") [u,c]) Q E s:=by
 cases r with
 |non=>cases (show u=Value.none from rv);exact PySem.W.kia_one PySem.W.kitx_none I.kIn True.intro e (fun z=>nomatch z) h
 |bl y=>cases (show u=Value.bool y from rv);exact PySem.W.kia_one PySem.W.kitx_bool I.kIn True.intro e (fun z=>nomatch z) h
 |int i=>obtain ⟨t,q⟩:=(show ∃ t,u=Value.int i t from rv);cases q;exact PySem.W.kia_one PySem.W.kitx_int I.kIn True.intro e (fun z=>nomatch z) h
 |str y=>obtain ⟨t,q⟩:=(show ∃ t,u=Value.str y t from rv);cases q;exact PySem.W.kia_one PySem.W.kitx_str I.kIn True.intro e (fun z=>nomatch z) h
 | tup g _=>
   cases (show u=Value.ref _ from rv)
   obtain ⟨_,_,⟨o,h1,h2,_⟩,_⟩:=I.tuple g
   exact PySem.W.kia_one PySem.W.kitx_tuple I.kIn ⟨o,h1,h2⟩ e (fun z=>nomatch z) h
 | lst g _=>
   cases (show u=Value.ref _ from rv)
   obtain ⟨_,_,⟨o,n,h1,h2,_⟩,_⟩:=I.list g
   exact PySem.W.kia_one PySem.W.kitx_list I.kIn ⟨o,h1,h2⟩ e (fun z=>nomatch z) h
theorem VH (I:Inv X Z σ H s) (r:Rep X.K H v d) (rv:RelV v u)
 (htp:s.heap.get? tp=some ⟨.type "tuple",dd,.seq its.toArray n,sl⟩) (e:PySem.W.kitAny X.K (.type (Tf d)) its=some b) (h:∀ tk,Q (.bool b) { s with toks:=tk }):wpAny (model X.prog X.w) A (call (.builtin "isinstance") [u,.ref tp]) Q E s:=by
 cases r with
 |non=>cases (show u=Value.none from rv);exact PySem.W.kia_tup PySem.W.kitx_none I.kIn True.intro htp e (fun z=>nomatch z) h
 |bl y=>cases (show u=Value.bool y from rv);exact PySem.W.kia_tup PySem.W.kitx_bool I.kIn True.intro htp e (fun z=>nomatch z) h
 |int i=>obtain ⟨t,q⟩:=(show ∃ t,u=Value.int i t from rv);cases q;exact PySem.W.kia_tup PySem.W.kitx_int I.kIn True.intro htp e (fun z=>nomatch z) h
 |str y=>obtain ⟨t,q⟩:=(show ∃ t,u=Value.str y t from rv);cases q;exact PySem.W.kia_tup PySem.W.kitx_str I.kIn True.intro htp e (fun z=>nomatch z) h
 | tup g _=>
   cases (show u=Value.ref _ from rv)
   obtain ⟨_,_,⟨o,h1,h2,_⟩,_⟩:=I.tuple g
   exact PySem.W.kia_tup PySem.W.kitx_tuple I.kIn ⟨o,h1,h2⟩ htp e (fun z=>nomatch z) h
 | lst g _=>
   cases (show u=Value.ref _ from rv)
   obtain ⟨_,_,⟨o,n,h1,h2,_⟩,_⟩:=I.list g
   exact PySem.W.kia_tup PySem.W.kitx_list I.kIn ⟨o,h1,h2⟩ htp e (fun z=>nomatch z) h
def W6 (K:PySem.W.Frag):List V->Hp->VK->Prop:=fun xs H Q=>∃ x n d b,xs=[x,.ty n]/\Rep K H x d/\PySem.W.kitOne K (.type (Tf d)) (.type n)=some b/\Q (.bl b) H
theorem bY:gF X (.builtin "isinstance") (W6 X.K):=by
 intro Z s σ H xs us Q I r h
 obtain ⟨x,n,d,b,rfl,hr,e,q⟩:=h
 cases r with
 | cons r1 r=>
   cases r with
   | cons r2 r=>
     cases r
     cases (show _=Value.type n from r2)
     exact isD I hr r1 e fun tk=>⟨.bl b,H,I.tok tk,rfl,q⟩
def Pu (K:PySem.W.Frag):List V->Hp->VK->Prop:=fun xs H Q=>∃ x a n m d b,xs=[x,.ref a]/\H a=some (.tup [.ty n,.ty m])/\Rep K H x d/\PySem.W.kitAny K (.type (Tf d)) [.type n,.type m]=some b/\Q (.bl b) H
theorem oW:gF X (.builtin "isinstance") (Pu X.K):=by
 intro Z s σ H xs us Q I r h
 obtain ⟨x,a,n,m,d,b,rfl,ha,hr,e,q⟩:=h
 cases r with
 | cons r1 r=>
   cases r with
   | cons r2 r=>
     cases r
     cases (show _=Value.ref a from r2)
     obtain ⟨z,its,rv,o,h1,h2,k,h3⟩:=(show cX X.prog X.w H s.heap a (.tup [.ty n,.ty m]) from I.hok a _ ha)
     obtain ⟨cls,dd,data,sl⟩:=o
     simp only at h2 h3
     subst h2 h3
     cases rv with
     | cons g1 rv=>
       cases rv with
       | cons g2 rv=>
         cases rv
         cases (show _=Value.type n from g1)
         cases (show _=Value.type m from g2)
         exact VH I hr r1 h1 e fun tk=>⟨.bl b,H,I.tok tk,rfl,q⟩
theorem Ah:∀ {bs:List Bool},xs=bs.map V.bl->Vals xs us->us=bs.map Value.bool:=by
 intro bs e r
 induction bs generalizing xs us with
 |nil=>subst e;cases r;rfl
 | cons b t ih=>
   subst e
   cases r with
   |cons r1 r=>rw [List.map_cons,ih rfl r,(show _=Value.bool b from r1)]
theorem range_all (bs:List Bool):(List.range bs.length).all (fun i=>bs.getD i false)=bs.all id:=by
 induction bs with
 |nil=>rfl
 |cons b t ih=>rw [List.length_cons,List.range_succ_eq_map,List.all_cons,List.all_map,List.all_cons,← ih];rfl
theorem qM {bs:List Bool}:TruthOf P w A (fun i v=>((bs.map Value.bool).toArray)[i]?=some v) fun i=>bs.getD i false:=fun i v s Q E hP hQ=>by
 dsimp only at hP hQ
 rw [List.getElem?_toArray,List.getElem?_map] at hP
 cases e:bs[i]? with
 |none=>rw [e] at hP;cases hP
 | some b=>
   rw [e] at hP
   cases hP
   rw [List.getD_eq_getElem?_getD,e] at hQ
   exact wpAny_pure hQ
def Q4 (K:PySem.W.Frag) (f:List Bool->Bool):List V->Hp->VK->Prop:=fun xs H Q=>∃ a bs,xs=[.ref a]/\bD K H a (bs.map V.bl)/\Q (.bl (f bs)) H
theorem oF {X:Cx} (hh:X.calm=true):gF X (.builtin "all") (Q4 X.K fun bs=>bs.all id):=by
 intro Z s σ H xs us Q I r h
 obtain ⟨a,bs,rfl,hq,q⟩:=h
 cases r with
 | cons r1 r=>
   cases r
   cases (show _=Value.ref a from r1)
   obtain ⟨its,rv,p,hz⟩:=I.list hq
   have e:=Ah rfl rv
   subst e
   refine PySem.call_all_walk (wpAny_pyIter_list p.isList ?_)
   have hne:a≠s.heap.objs.size:=(by obtain ⟨o,ho,_⟩:=p.isList;exact Nat.ne_of_lt (Heap.lt_size ho))
   refine ⟨s.heap.objs.size,_,_,_,_,_,_,rfl,Walks.list (A:=X.A.in1) (I.ok.hd hh) s.heap.objs.size a hne (bs.map Value.bool).toArray,⟨⟨_,Heap.get?_push_size _ rfl,rfl,rfl⟩,?_⟩,qM,fun h' tk hk=>?_⟩
   ·obtain ⟨o,ho,hc,n,hd⟩:=p.isList
    exact ⟨o,Heap.get?_push_of_some _ ho,hc,n,hd⟩
   ·rw [List.size_toArray,List.length_map,range_all]
    exact ⟨.bl _,H,I.kept fun b o e=>hk b o (by simp;exact Nat.ne_of_lt (Heap.lt_size e)) (Heap.get?_push_of_some _ e),rfl,q⟩
theorem Et:∀ {ys:List Str},Vals (ys.map V.str) us->StrsAre us ys:=by
 intro ys
 induction ys generalizing us with
 |nil=>intro r;cases r;exact .nil
 | cons y t ih=>
   intro r
   cases r with
   | cons r1 r=>
     obtain ⟨tk,e⟩:=(show ∃ t,_=Value.str y t from r1)
     subst e
     exact .cons _ _ (ih r)
def rJoin (K:PySem.W.Frag):V->List V->Hp->VK->Prop:=fun x vs H Q=>∃ z a ys,x=.str z/\vs=[.ref a]/\bD K H a (ys.map V.str)/\(ys.map (·.length)).sum+ys.length*z.length≤16777216/\Q (.str (Txt.join z ys)) H
theorem vq:Kv X "str.join" (rJoin X.K):=by
 intro Z s σ H x vs v us Q I rx rv h
 obtain ⟨z,a,ys,rfl,rfl,hq,hl,q⟩:=h
 obtain ⟨t,e⟩:=(show ∃ t,v=Value.str z t from rx)
 subst e
 cases rv with
 | cons r1 r=>
   cases r
   cases (show _=Value.ref a from r1)
   obtain ⟨its,rs,p,hz⟩:=I.list hq
   exact join_list p.isList (by simpa using Et rs) hl fun t' k=>⟨.str _,H,I.tok k,⟨t',rfl⟩,q⟩
def Wj (f:Str->Bool):V->List V->Hp->VK->Prop:=fun x vs H Q=>∃ z,x=.str z/\vs=[]/\Q (.bl (f z)) H
theorem uA:Kv X "str.isascii" (Wj fun x=>x.cps.all (·<128)):=by
 intro Z s σ H x vs v us Q I rx rv h
 obtain ⟨z,rfl,rfl,q⟩:=h
 obtain ⟨t,e⟩:=(show ∃ t,v=Value.str z t from rx)
 subst e
 cases rv
 exact call_gives PySem.F.slot_str_isascii (typeIs_str _ _ _) PySem.F.entry_str_isascii (PySem.F.args_str_isascii_1 _) (gives_str_isascii z t) ⟨.bl _,H,I,rfl,q⟩
theorem tL:Kv X "str.isalpha" (Wj fun x=>x.length > 0 && x.cps.all Unicode.isAlpha):=by
 intro Z s σ H x vs v us Q I rx rv h
 obtain ⟨z,rfl,rfl,q⟩:=h
 obtain ⟨t,e⟩:=(show ∃ t,v=Value.str z t from rx)
 subst e
 cases rv
 exact call_gives PySem.F.slot_str_isalpha (typeIs_str _ _ _) PySem.F.entry_str_isalpha (PySem.F.args_str_isalpha_1 _) (gives_str_isalpha z t) ⟨.bl _,H,I,rfl,q⟩
theorem uq:Kv X "str.islower" (Wj fun x=>x.cps.any Unicode.isLower && !x.cps.any fun c=>Unicode.isUpper c || Unicode.isTitle c):=by
 intro Z s σ H x vs v us Q I rx rv h
 obtain ⟨z,rfl,rfl,q⟩:=h
 obtain ⟨t,e⟩:=(show ∃ t,v=Value.str z t from rx)
 subst e
 cases rv
 exact call_gives PySem.F.slot_str_islower (typeIs_str _ _ _) PySem.F.entry_str_islower (PySem.F.args_str_islower_1 _) (gives_str_islower z t) ⟨.bl _,H,I,rfl,q⟩
structure PL (osc:Scope) (N:List Str) (scope:Scope) (own:List Str) (js:List Nat) (N':List Str):Prop where
 kind:scope.kind=.function
 nocell:∀ y∈scope.names,y.2≠.cell
 names:∀ y∈scope.names,y.2=.local->scope.names.lookup y.1=some .local
 free:∀ y∈scope.names,y.2=.free->osc.names.lookup y.1=some .cell∨osc.names.lookup y.1=some .free
 nm:N'=own++js.map fun j=>N.getD j Str.empty
 fr:∀ j∈js,j<N.length/\(N.getD j Str.empty,NameKind.free)∈scope.names/\∀ y∈scope.names,y.1=N.getD j Str.empty->y.2=.free
theorem bw.of (h1:X.env.scope=osc) (h2:X.N=N) (h:PL osc N scope own js N'):bw X scope own js N':=by
 subst h1 h2
 exact ⟨h.kind,h.nocell,h.names,h.free,h.nm,fun j hj=>⟨(h.fr j hj).1,(h.fr j hj).2.1,fun k hk=>(h.fr j hj).2.2 _ hk rfl⟩⟩
mutual
def gH:PyData->Nat
 |.tuple xs=>max xs.length (gY xs)
 |.list xs=>max xs.length (gY xs)
 |_=>0
def gY:List PyData->Nat
 |[]=>0
 |d::r=>max (gH d) (gY r)
end
theorem mR:∀ {es:List PyData},e∈es->gH e≤gY es
 |_::_,.head _=>by simp only [gY];omega
 |_::r,.tail _ h=>by have:=mR h;simp only [gY];omega
theorem dG (hg:Gl X x) (hm:X.mg x=none) (hv:bootBuiltins x=some (.type n)) (hn:x ≠ "__name__":=by decide) (hd:(x == ("__debug__" : Str))=false:=by decide):PE X (.Name x pos) (tC (.ty n)):=El (v:=.ty n) hg hm hv rfl hn hd
theorem cL {c:Bool} {A B:Prop} (h:c=true) (q:A):if c=true then A else B:=by rw [if_pos h];exact q
theorem cg {c:Bool} {A B:Prop} (h:c=false) (q:B):if c=true then A else B:=by rw [if_neg (by rw [h];exact Bool.false_ne_true)];exact q
def En (r r' r'':R2) (ta tb tc td:TE):TE:=fun σ H Q=>ta σ H fun x H1=>tb σ H1 fun y H2=>r x y H2 fun z H3=>∃ k,z=.bl k/\
 (if k=true then tc σ H3 fun w' H4=>r' y w' H4 fun z' H5=>∃ k',z'=.bl k'/\(if k'=true then td σ H5 fun v' H6=>r'' w' v' H6 Q else Q (.bl false) H5) else Q (.bl false) H3)
theorem yo (ho:iT X (compareOp op) r) (ho':iT X (compareOp op') r') (ho'':iT X (compareOp op'') r'') (ha:PE X a ta) (hb:PE X b tb) (hc:PE X c tc) (hd:PE X d td)
 (hm:lastMarks [op,op',op''] [b,c,d]=false:=by with_unfolding_all rfl):PT X (.Compare a [op,op',op''] [b,c,d] pos) (wu (En r r' r'' ta tb tc td)):=by
 intro Z s σ H Q I h
 refine isTrue_chain (cz (ha Z s σ H _ I h) fun v s1 ⟨x,H1,I1,r1,q1⟩=>test_link (cz (hb Z s1 σ H1 _ I1 q1) fun u s2 ⟨y,H2,I2,r2,q2⟩=>
  cz (ho Z s2 σ H2 x y v u _ I2 r1 r2 q2) fun d' s3 ⟨z,H3,I3,r3,k,e,q3⟩=>?_)) hm
 subst e
 cases r3
 refine wpAny_truthy_bool ?_
 cases k with
 | false=>
   obtain ⟨k',e',q'⟩:=q3
   cases e'
   exact ite_ff ⟨H3,I3,q'⟩
 | true=>
   refine ite_tt (test_link (cz (hc Z s3 σ H3 _ I3 q3) fun w' s4 ⟨z',H4,I4,r4,q4⟩=>cz (ho' Z s4 σ H4 y z' u w' _ I4 r2 r4 q4) fun d'' s5 ⟨z2,H5,I5,r5,k2,e2,q5⟩=>?_))
   subst e2
   cases r5
   refine wpAny_truthy_bool ?_
   cases k2 with
   | false=>
     obtain ⟨k',e',q'⟩:=q5
     cases e'
     exact ite_ff ⟨H5,I5,q'⟩
   | true=>
     refine ite_tt (test_last (cz (hd Z s5 σ H5 _ I5 q5) fun w2 s6 ⟨z3,H6,I6,r6,q6⟩=>cz (ho'' Z s6 σ H6 z' z3 w' w2 _ I6 r4 r6 q6) fun d3 s7 ⟨z4,H7,I7,r7,k3,e3,q7⟩=>?_))
     subst e3
     cases r7
     exact wpAny_truthy_bool ⟨H7,I7,q7⟩
abbrev TF:=Str->St->Hp->VK->Prop
def PF (X:Cx) (es:List Expr) (t:TF):Prop:=
 ∀ (out:Str) (Z:List (Addr×Obj)) (s:Shared) (σ:St) (H:Hp) (Q:VK),Inv X Z σ H s->t out σ H Q->wpAny (model X.prog X.w) X.A (joinParts out (evalEach es X.env)) (EP X Z σ Q) X.xe s
def VG (x:V) (y:Str):Prop:=(x=.str y/\y.length≤sizeLine)∨∃ i:Int,x=.int i/\i.natAbs.log2<1920/\y=Str.ofString (toString i)
theorem tM:PF X [] (fun out _ H Q=>out.length≤sizeLine/\Q (.str out) H):=fun out Z s σ H Q I h=>joinParts_nil ⟨.str out,H,I.tok _,⟨_,rfl⟩,h.2⟩ h.1
theorem tV (hr:PF X es t) (hs:evalEach (.Constant (.str x) j pos::es) X.env=eval (.Constant (.str x) j pos) X.env::evalEach es X.env:=by rfl) :
 PF X (.Constant (.str x) j pos::es) (fun out σ H Q=>(out++x).length≤sizeLine/\t (out++x) σ H Q):=by
 intro out Z s σ H Q I h
 rw [hs]
 exact joinParts_cons (Calls.Constant_str ⟨h.1,hr (out++x) Z _ σ H Q (I.tok _) h.2⟩)
theorem lu (he:PE X e te) (hr:PF X es t) (hs:evalEach (.FormattedValue e (-1) none pos::es) X.env=eval (.FormattedValue e (-1) none pos) X.env::evalEach es X.env:=by rfl) :
 PF X (.FormattedValue e (-1) none pos::es) (fun out σ H Q=>te σ H fun x H1=>∃ y,VG x y/\(out++y).length≤sizeLine/\t (out++y) σ H1 Q):=by
 intro out Z s σ H Q I h
 rw [hs]
 refine joinParts_cons (FormattedValue_plain (cz (he Z s σ H _ I h) fun v s1 ⟨x,H1,I1,r1,y,fm,hl,q⟩=>?_))
 rcases fm with ⟨rfl,hy⟩|⟨i,rfl,hi,rfl⟩
 ·obtain ⟨tk,rfl⟩:=r1
  exact formatField_str (fun t' tk=>⟨hl,hr _ Z _ σ H1 Q (I1.tok tk) q⟩) hy
 ·obtain ⟨tk,rfl⟩:=r1
  exact formatField_int_small hi ⟨hl,hr _ Z _ σ H1 Q (I1.tok _) q⟩
def Qv (t:TF):TE:=fun σ H Q=>t Str.empty σ H Q
theorem pN (h:PF X (e1::e2::es) t) (hs:evalEach (e1::e2::es) X.env=eval e1 X.env::eval e2 X.env::evalEach es X.env:=by rfl):PE X (.JoinedStr (e1::e2::es) pos) (Qv t):=by
 intro Z s σ H Q I hw
 refine JoinedStr_many ?_
 rw [← hs]
 exact h _ Z s σ H Q I hw
end L2
namespace HT
open PySem PySem.Spec PyProof.Rows
theorem Fl {s:Shared} {ws:List Value} {Q:Value->Shared->Prop} (ht:IsTup s.heap t #[]) (hb:IsTup s.heap b ws.toArray) (h:Q (.ref b) s):wpAny (model prog w) A (binaryOp .Add (.ref t) (.ref b)) Q E s:=by
 obtain ⟨⟨_,dd,_,sl⟩,ho,rfl,n,rfl⟩:=id ht
 obtain ⟨⟨_,dd2,_,sl2⟩,ho2,rfl,n2,rfl⟩:=id hb
 exact concat_meets ⟨_,ho,rfl⟩ ⟨_,ho2,rfl⟩ noFill_tuple_add seq_tuple_add PySem.F.slot_tuple_add PySem.F.entry_tuple_add (PySem.F.args_tuple_add_2 _ _) (tuple_addW0 t b #[] ws.toArray n n2 dd dd2 sl sl2 rfl) ⟨ho,ho2,h⟩
theorem yd {s:Shared} {t sl:Addr} {items:Array Value} {a b c:Value} {lo step:Int} {n:Nat} {Q:Value->Shared->Prop} (ht:IsTup s.heap t items) (hs:s.heap.IsSliceOf sl a b c)
 (ha:∀ (A':Around) (Q':Int×Int×Nat->Shared->Prop) (E':Value->Shared->Prop),Q' (lo,step,n) s->wpAny (model prog w) A' (Builtin.Slice.sliceApplied (.ref sl) (pure (items.size:Int))) Q' E' s)
 (h1:(lo == 0 && step == 1 && n == items.size)=true->Q (.ref t) s)
 (h2:¬ (lo == 0 && step == 1 && n == items.size)=true->((List.range n).filterMap fun (k:Nat)=>items[(lo+(k:Int)*step).toNat]?).length≤sizeLine/\
  Q (.ref s.heap.objs.size) { s with heap:=s.heap.push { cls:=.type "tuple",data:=.seq ((List.range n).filterMap fun (k:Nat)=>items[(lo+(k:Int)*step).toNat]?).toArray } }) :
 wpAny (model prog w) A (getItem (.ref t) (.ref sl)) Q E s:=by
 obtain ⟨so,hso,hsc,hsd⟩:=id hs
 have hty:s.TypeIs (.ref sl) "slice":=⟨so,hso,hsc⟩
 obtain ⟨to,hto,htc,nt,htd⟩:=id ht
 unfold getItem
 try with_reducible refine wpAny_holding ?_
 first|refine wpAny_bind (wpAny_pure ?_)|skip
 refine wpAny_bind (wpAny_sequenceKey ht.typeIs (by decide) (wpAny_bind (wpAny_callSpecial?_slot (name:=Str.ofString "__getitem__") ht.typeIs PyProof.Rows.slot_tuple_getitem (wpAny_call_entry PyProof.Rows.slot_tuple_getitem ht.typeIs entry_tuple_getitem ?_ (args_tuple_getitem _ _)))))
 show wpAny _ _ (Builtin.Tuple.tupleItemsOf (.ref t) >>= _) _ _ s
 refine wpAny_bind (tupleItemsOf_ ht (wpAny_bind (wpAny_typeOf hty ?_)))
 rw [if_pos (by decide)]
 refine wpAny_bind (ha _ _ _ ?_)
 show wpAny _ _ (if (lo == 0 && step == 1 && n == items.size)=true then _ else _) _ _ s
 by_cases hw:(lo == 0 && step == 1 && n == items.size)=true
 ·rw [if_pos hw]
  have hx:wpAny (model prog w) A.in1 (Builtin.Tuple.tupleIsExact (.ref t)) (fun b s'=>b=true/\s'=s) E s:=by
   unfold Builtin.Tuple.tupleIsExact
   refine wpAny_bind (wpAny_typeOf_ref hto ?_)
   rw [htc]
   exact wpAny_pure ⟨rfl,rfl⟩
  first
   |refine wpAny_bind (wpAny_mono hx (fun b s' h'=>?_) fun _ _ z=>z)
   |refine wpAny_bind (wpAny_bind (wpAny_mono hx (fun b s' h'=>?_) fun _ _ z=>z))
  obtain ⟨rfl,rfl⟩:=h'
  rw [if_pos rfl]
  first
   |exact wpAny_bind (wpAny_rule (wpAny_pure ⟨_,rfl,wpAny_pure (h1 hw)⟩))
   |exact wpAny_bind (wpAny_rule (wpAny_bind (wpAny_pure (wpAny_pure ⟨_,rfl,wpAny_pure (h1 hw)⟩))))
 ·rw [if_neg hw]
  obtain ⟨hz,hq⟩:=h2 hw
  have hok:sizeOk (.seq ((List.range n).filterMap fun (k:Nat)=>items[(lo+(k:Int)*step).toNat]?).toArray):=by
   show (_:Array Value).size≤sizeLine
   rw [List.size_toArray];exact hz
  first
   |exact wpAny_bind (m:=Builtin.Tuple.tupleExact _) (wpAny_newObj_type (wpAny_pure ⟨_,rfl,wpAny_pure hq⟩) hok)
   |exact wpAny_bind (m:=Builtin.Tuple.tupleExact _) (wpAny_newObj_type (wpAny_bind (wpAny_pure (wpAny_pure ⟨_,rfl,wpAny_pure hq⟩))) hok)
   |exact wpAny_bind (wpAny_bind (m:=Builtin.Tuple.tupleExact _) (wpAny_newObj_type (wpAny_pure (wpAny_pure ⟨_,rfl,wpAny_pure hq⟩)) hok))
end HT
namespace L2
open PySem PySem.Spec PyProof.Rows PySem.SeqAt
def rB (K:PySem.W.Frag):R2:=fun x y H Q=>∃ a b xs ys,x=.ref a/\y=.ref b/\bI K H a xs/\bI K H b ys/\xs.length+ys.length≤sizeLine/\(xs=[]->Q (.ref b) H)/\(ys=[]->Q (.ref a) H)/\∀ p,H p=none->Q (.ref p) (upd H p (.tup (xs++ys)))
theorem pY:iT X (binaryOp .Add) (rB X.K):=by
 intro Z s σ H x y v u Q I rx ry h
 obtain ⟨a,b,xs,ys,rfl,rfl,ha,hb,hz,q0,q1,q2⟩:=h
 by_cases hx:xs=[]
 ·subst hx
  cases (show v=Value.ref a from rx)
  cases (show u=Value.ref b from ry)
  obtain ⟨its,r1,p1,_⟩:=I.tuple ha
  obtain ⟨its2,r2,p2,_⟩:=I.tuple hb
  cases r1
  exact HT.Fl p1 p2 ⟨.ref b,H,I,rfl,q0 rfl⟩
 ·refine Fx Z s σ H _ _ v u Q I rx ry ⟨a,b,xs,ys,rfl,rfl,ha,hb,hx,hz,q1,fun _=>q2⟩
def Np (K:PySem.W.Frag):V->Option Int->Option Int->Hp->VK->Prop:=fun x lo hi H Q=>∃ a xs,x=.ref a/\bI K H a xs/\(jq xs lo hi=xs->Q (.ref a) H)/\∀ p,H p=none->Q (.ref p) (upd H p (.tup (jq xs lo hi)))
theorem iD {X:Cx}:Nt X (Np X.K):=by
 intro Z s σ H x v vl vu lo hi sl Q I rx hs pl pu h
 obtain ⟨a,xs,rfl,hx,q1,q2⟩:=h
 by_cases hw:HT.eF xs.length 0 lo=0/\HT.eF xs.length xs.length hi=xs.length
 ·cases (show v=Value.ref a from rx)
  obtain ⟨its,r,ht,hz⟩:=I.tuple hx
  have hlen:its.toArray.size=xs.length:=by rw [List.size_toArray];exact r.length.symm
  refine ⟨"tuple",_,PyProof.Rows.slot_tuple_getitem.lookup,ht.typeIs,?_⟩
  have e:jq xs lo hi=xs:=by
   unfold jq
   rw [hw.1,hw.2,List.drop_zero,Nat.sub_zero,List.take_length]
  refine HT.yd ht hs (fun A' Q' E' q'=>HT.h_ hs pl pu q') (fun _=>⟨.ref a,H,I,rfl,q1 e⟩) fun hn=>(hn ?_).elim
  rw [hlen,hw.1,hw.2]
  simp
 ·exact HR Z s σ H _ v vl vu lo hi sl Q I rx hs pl pu ⟨a,xs,rfl,hx,hw,q2⟩
theorem Inv.turnLaid {X:Cx} {s:Shared} {h':Heap} {a:Addr} {o:HO} {t':Nat} {fp:List Addr} (I:Inv X Z σ H s) (k:∀ b u,b∉fp->s.heap.get? b=some u->h'.get? b=some u) (ke:∀ b∈fp,∃ u,h'.get? b=some u) (hf:∀ b∈fp,gZ X Z H b) (hp:s.heap.objs.size≤a) (new:cX X.prog X.w (upd H a o) h' a o) :
 Inv X Z σ (upd H a o) { s with heap:=h',toks:=t' }:=by
 have hn:H a=none:=I.hok.fresh hp
 have off:∀ b u,H b=some u->b∉fp:=fun b u e z=>by rw [(hf b z).1] at e;cases e
 have up:∀ b u,H b=some u->(upd H a o) b=some u:=fun b u e=>by rw [aH (aB e hn)];exact e
 refine I.step (g':=s.gens) (d':=s.drawn) (ch:=fp) (fun b hb=>?_) (fun b u _ _ hc e _=>k b u hc e) (fun b u _ _ hc e _=>⟨u.slots,k b u hc e⟩) (fun b u _ e n=>?_) (fun b u hc e=>⟨u,k b u hc e⟩) (fun b xs e=>up b _ e) (fun b u z e=>up b _ e) (fun b ps e=>⟨#[],by rw [up b _ e];simp⟩) (fun m hm=>?_) (fun b u e=>?_) I.bare
 ·obtain ⟨_,f1,_,f3,f4,f5⟩:=hf b hb
  exact ⟨f3,f1,f4,f5⟩
 ·rw [aH (Nat.ne_of_lt (Nat.lt_of_lt_of_le (Heap.lt_size e) hp))];exact n
 ·obtain ⟨u,es,ep,ho,r⟩:=hm
  exact ⟨u,es,ep,k _ u (fun z=>(hf _ z).2.1 rfl) ho,r⟩
 ·by_cases hb:b=a
  ·subst hb;rw [ao] at e;cases e;exact new
  ·rw [aH hb] at e
   refine (I.hok b u e).stay (fun c v hc q=>k c v ?_ q) (fun c q=>up c _ q) fun c xs q=>up c _ q
   rcases hc with rfl|z
   ·exact off _ u e
   ·exact off c _ z
theorem gq (hit:s.heap.IsTupleIter it l i) (hl:s.heap.IsTuple l items) (hx:items[i]?=some x)
 (hQ:∀ g,g.IsTupleIter it l (i+1)->Heap.SameBut it s.heap g->Q x { s with heap:=g }):wpAny (model prog w) A (Builtin.SmallTypes.nextOf (.ref it)) Q E s:=by
 obtain ⟨o,ho,hc,hd⟩:=id hit
 obtain ⟨ol,hol,_,nl,hdl⟩:=hl
 unfold Builtin.SmallTypes.nextOf
 refine wpAny_bind (wpAny_callSpecial?_slot (name:=Str.ofString "__next__") hit.typeIs F.slot_tuple_iterator_next (wpAny_call_entry F.slot_tuple_iterator_next hit.typeIs F.entry_tuple_iterator_next ?_ (F.args_tuple_iterator_next_1 _)))
 show wpAny _ _ (field (.ref it) 0 >>= _) _ _ s
 refine wpAny_bind (wpAny_field ho hd (x:=.ref l) rfl ?_)
 show wpAny _ _ (if (Value.ref l == Value.none)=true then _ else _) _ _ s
 rw [if_neg (show ¬ ((Value.ref l == Value.none)=true) from nofun)]
 show wpAny _ _ (field (.ref it) 1 >>= _) _ _ s
 refine wpAny_bind (wpAny_field ho hd (x:=.int i 0) rfl ?_)
 show wpAny _ _ (seqItems? (.ref l) >>= _) _ _ s
 refine wpAny_bind (wpAny_seqItems hol hdl ?_)
 simp only [Int.toNat_natCast,hx]
 refine wpAny_bind (wpAny_setField ho hd (by simp) (wpAny_pure ⟨x,rfl,wpAny_pure (hQ _ ⟨_,Heap.get?_update_self _ ho (Obj.isFreed_of_fields (Obj.data_mapFields hd _)),(Obj.cls_mapFields ..).trans hc,by rw [Obj.data_mapFields hd];simp [rawInt]⟩ (Heap.SameBut.update ..))⟩))
theorem gk (hh:A.handled=none) (hit:s.heap.IsTupleIter it l i) (hl:s.heap.IsTuple l items) (hx:items[i]?=none)
 (hE:∀ g e,Heap.ExtBut it s.heap g->(∃ o,g.get? e=some o/\o.cls=.type "StopIteration")->E (.ref e) { s with heap:=g }):wpAny (model prog w) A (Builtin.SmallTypes.nextOf (.ref it)) Q E s:=by
 obtain ⟨o,ho,hc,hd⟩:=id hit
 obtain ⟨ol,hol,_,nl,hdl⟩:=hl
 unfold Builtin.SmallTypes.nextOf
 refine wpAny_bind (wpAny_callSpecial?_slot (name:=Str.ofString "__next__") hit.typeIs F.slot_tuple_iterator_next (wpAny_call_entry F.slot_tuple_iterator_next hit.typeIs F.entry_tuple_iterator_next ?_ (F.args_tuple_iterator_next_1 _)))
 show wpAny _ _ (field (.ref it) 0 >>= _) _ _ s
 refine wpAny_bind (wpAny_field ho hd (x:=.ref l) rfl ?_)
 show wpAny _ _ (if (Value.ref l == Value.none)=true then _ else _) _ _ s
 rw [if_neg (show ¬ ((Value.ref l == Value.none)=true) from nofun)]
 show wpAny _ _ (field (.ref it) 1 >>= _) _ _ s
 refine wpAny_bind (wpAny_field ho hd (x:=.int i 0) rfl ?_)
 show wpAny _ _ (seqItems? (.ref l) >>= _) _ _ s
 refine wpAny_bind (wpAny_seqItems hol hdl ?_)
 simp only [Int.toNat_natCast,hx]
 refine wpAny_bind (wpAny_rule (wpAny_bind (wpAny_setField ho hd (by simp) ?_)))
 show wpAny _ _ (newExc (.type "StopIteration") [] >>= _) _ _ _
 refine wpAny_bind ?_
 simp only [newExc,newTuple]
 refine wpAny_bind (wpAny_newObj_type ?_ (by size_fits))
 refine wpAny_bind (m:=firstArgMember _ _) (wpAny_of_eq (a:=Value.none) (by first|rfl|(simp only [firstArgMember];rfl)) (wpAny_newObj_type ?_ (by size_fits)))
 simp only [raiseNew]
 refine wpAny_bind (wpAny_handled ?_)
 first|rw [show A.in1.handled=none from hh]|rw [hh]
 exact wpAny_bind (wpAny_pure (wpAny_throw (hE _ _ (((Heap.SameBut.update ..).extBut.push _).push _) ⟨_,Heap.get?_push_size _ rfl,rfl⟩)))
theorem J8 (hh:A.handled=none) (it l:Addr) (hne:l≠it) (items:Array Value):Draws prog w A it [it,l] items.size (fun i v=>items[i]?=some v) (fun i h=>h.IsTupleIter it l i/\h.IsTuple l items) where
 live:=fun _ _ st=>let ⟨o,ho,_⟩:=st.1;⟨o,ho⟩
 frame:=fun _ _ _ st hk=>⟨st.1.at fun o e=>hk it (by simp) o e,let ⟨o,e,r⟩:=st.2;⟨o,hk l (by simp) o e,r⟩⟩
 item:=fun i s Q E hi st hQ=>gq st.1 st.2 (x:=items[i]) (by simp [hi]) fun g g1 g2=>hQ _ g s.toks (by simp [hi]) ⟨g1,let ⟨o,e,r⟩:=st.2;⟨o,(g2.2 l hne).trans e,r⟩⟩ g2
 done:=fun s Q E st hE=>gk hh st.1 st.2 (by simp) hE
theorem yf (l:Addr) (items:Array Value) (n:Nat) (dct:Option Addr) (sl:Array (Option Value)) :
 Meets (Builtin.«enumerate.__new__» ⟨[.type "enumerate",.ref l],[]⟩) (fun _ R s=>s.heap.get? l=some { cls:=.type "tuple",dict:=dct,data:=.seq items n,slots:=sl }/\
  R (.ok (.ret (.ref (s.heap.push { cls:=.type "tuple_iterator",data:=.fields #[.ref l,.int 0 0] }).objs.size)))
    { s with heap:=(s.heap.push { cls:=.type "tuple_iterator",data:=.fields #[.ref l,.int 0 0] }).push { cls:=.type "enumerate",data:=.fields #[.none,.bool false,.ref s.heap.objs.size,rawInt 0,.none,.none] } }):=
 .of_wp fun prog w A R s h=>by
  obtain ⟨hp,g,d,tk,os⟩:=s
  obtain ⟨hl,h⟩:=h
  have hsub:=sub_enumerate
  have hL:Heap.IsTuple (Shared.heap ⟨hp,g,d,tk,os⟩) l items:=⟨_,hl,rfl,n,rfl⟩
  wp_walk using AutoSeq1.wpAny_loadPart' hl
  refine wpAny_stack_any fun st=>wpAny_pure ?_
  split
  ·rename_i c _ _ _ _ _
   cases (c == Value.type "enumerate") <;> (wp_walk using AutoSeq1.wpAny_loadPart' hl,wpAny_pyIter_tuple hL;exact ⟨_,rfl,h⟩)
  ·wp_walk using AutoSeq1.wpAny_loadPart' hl,wpAny_pyIter_tuple hL
   exact ⟨_,rfl,h⟩
theorem tQ (hL:s.heap.IsTuple l items)
 (h:∀ g,IsEnum g (s.heap.objs.size+1) s.heap.objs.size 0 .none->g.IsTupleIter s.heap.objs.size l 0->(∀ b o,s.heap.get? b=some o->g.get? b=some o)->Q (.ref (s.heap.objs.size+1)) { s with heap:=g }):wpAny (model prog w) A (call (.type "enumerate") [.ref l]) Q E s:=by
 obtain ⟨⟨_,dd,_,sl⟩,ho,rfl,n,rfl⟩:=id hL
 refine callType_new F.called_enumerate (by decide) (F.typeCall_enumerate_1 _) (F.newCall_enumerate_1 _) (fun obj=>F.args_object_init_2 obj _) F.entry_enumerate_new (yf l items n dd sl) ⟨ho,?_⟩
 have hz:(s.heap.push { cls:=.type "tuple_iterator",data:=.fields #[.ref l,.int 0 0] }).objs.size=s.heap.objs.size+1:=Heap.size_push ..
 have he:=Heap.get?_push_size (s.heap.push { cls:=.type "tuple_iterator",data:=.fields #[.ref l,.int 0 0] }) (o:={ cls:=.type "enumerate",data:=.fields #[.none,.bool false,.ref s.heap.objs.size,rawInt 0,.none,.none] }) rfl
 rw [hz] at he
 show _/\_
 rw [hz]
 exact ⟨⟨_,he,rfl⟩,h _ he ⟨_,Heap.get?_push_of_some _ (Heap.get?_push_size _ rfl),rfl,rfl⟩ fun b o x=>Heap.get?_push_of_some _ (Heap.get?_push_of_some _ x)⟩
def Mp (K:PySem.W.Frag) (a:Addr):It:=
 ⟨fun i H=>∃ xs x,bI K H a xs/\xs[i]?=some x,fun i H v H'=>∃ p x,H p=none/\v=.ref p/\(∀ xs,bI K H a xs->xs[i]?=some x)/\H'=upd H p (.tup [.int i,x]),fun i H=>∃ xs,bI K H a xs/\xs.length≤i⟩
theorem t7 {P:Program} {w:World} {K:PySem.W.Frag} {elts:List Expr} {k1} {pos:Pos} (a e it:Addr) (hei:e≠it):Turn P w K (.Tuple elts k1 pos) (Mp K a) [e,it] e (fun i h=>(∃ old,IsEnum h e it i old)/\h.IsTupleIter it a i) where
 mem:=by simp
 obj:=fun i h st b hb=>by
  obtain ⟨⟨old,h1⟩,o,h2,_,h3⟩:=st
  rcases List.mem_cons.mp hb with rfl|hb
  ·exact ⟨_,h1,fun v z=>by cases (show Data.fields _=Data.cell v from z)⟩
  ·cases List.mem_singleton.mp hb
   exact ⟨o,h2,fun v z=>by rw [h3] at z;cases z⟩
 keep:=fun i h h' st k=>⟨let ⟨old,h1⟩:=st.1;⟨old,k e (by simp) _ h1⟩,st.2.at fun o z=>k it (by simp) o z⟩
 item:=by
  intro X hP hw hK hc i Z s σ H E I hf st hg
  subst hP hw hK
  obtain ⟨xs,x,hq,hx⟩:=hg
  obtain ⟨its,rv,p,hz⟩:=I.tuple hq
  obtain ⟨u,hu,ru⟩:=rv.get hx
  obtain ⟨⟨old,he⟩,ht⟩:=st
  have hit:s.heap.IsTuple a its.toArray:=p
  have han:a≠it:=by
   rintro rfl
   obtain ⟨o1,h1,h2,_⟩:=id hit
   obtain ⟨o2,h3,h4,_⟩:=id ht
   rw [h1] at h3;cases h3
   rw [h2] at h4;exact absurd (Value.type.inj h4) (by decide)
  have hae:a≠e:=by
   rintro rfl
   obtain ⟨o1,h1,h2,_⟩:=id hit
   rw [he] at h1;cases h1
   exact absurd (Value.type.inj h2) (by decide)
  have D:=J8 (prog:=X.prog) (w:=X.w) (A:=X.A.in1) (I.ok.hd hc) it a han its.toArray
  have hlt:i<its.toArray.size:=by
   have:=(List.getElem?_eq_some_iff.mp hx).1
   have hl:=rv.length
   rw [List.size_toArray];omega
  refine wpAny_pyNext_enum_itemD D he ⟨ht,hit⟩ hlt hei (by simp [hei,Ne.symm hae]) fun y g tk hy ho hst' htup hsz hk=>?_
  have e1:y=u:=by
   have:its.toArray[i]?=some u:=by simpa using hu
   rw [this] at hy;exact (Option.some.inj hy).symm
  subst e1
  refine ⟨_,rfl,?_⟩
  have helt:e<s.heap.objs.size:=Heap.lt_size he
  have hilt:it<s.heap.objs.size:=let ⟨o,z,_⟩:=ht;Heap.lt_size z
  have I1:Inv X Z σ (upd H s.heap.objs.size (.tup [.int i,x])) { s with heap:=g,toks:=tk+1 }:=by
   refine I.turnLaid (fp:=[e,it]) (fun b o hb z=>hk b o (fun q=>hb (by simp [q])) (fun q=>hb (by simp [q])) z) (fun b hb=>?_) hf (Nat.le_refl _) ?_
   ·rcases List.mem_cons.mp hb with rfl|hb
    ·exact ⟨_,ho⟩
    ·cases List.mem_singleton.mp hb
     exact let ⟨o,z,_⟩:=hst'.1;⟨o,z⟩
   ·exact ⟨by show 2≤sizeLine;decide,[.int i tk,y],.cons ⟨_,rfl⟩ (.cons ru .nil),⟨_,htup,rfl,_,rfl⟩⟩
  have hno:∀ b∈[e,it],(upd H s.heap.objs.size (.tup [.int i,x])) b=none:=fun b hb=>by
   have hbl:b<s.heap.objs.size:=by
    rcases List.mem_cons.mp hb with rfl|hb
    ·exact helt
    ·cases List.mem_singleton.mp hb;exact hilt
   rw [aH (Nat.ne_of_lt hbl)]
   exact (hf b hb).1
  refine wpAny_letOwnedTupleGo_enum ho fun g2 he2 hs2=>?_
  obtain ⟨f0,f1,f2,f3,f4,f5⟩:=hf e (by simp)
  refine ⟨.ref s.heap.objs.size,_,I1.turned (t':=tk+1) (fun b o hb z=>(hs2.2 b hb).trans z) (hno e (by simp)) f1 f3 f4 f5,rfl,⟨s.heap.objs.size,x,I.hok.fresh (Nat.le_refl _),rfl,fun ys hy=>by rw [I.tuple_inj hy hq];exact hx,rfl⟩,⟨⟨_,by simpa using he2⟩,?_⟩,hno⟩
  exact hst'.1.at fun o z=>(hs2.2 it (Ne.symm hei)).trans z
 done:=by
  intro X hP hw hK hc i Z s σ H E I hf st hg
  subst hP hw hK
  obtain ⟨xs,hq,hx⟩:=hg
  obtain ⟨its,rv,p,hz⟩:=I.tuple hq
  obtain ⟨⟨old,he⟩,ht⟩:=st
  obtain ⟨f0,f1,f2,f3,f4,f5⟩:=hf it (by simp)
  have hl:=rv.length
  have hT:s.TypeIs (.ref e) "enumerate":=⟨_,he,rfl⟩
  unfold pyNext
  refine wpAny_bind (wpAny_attempt (wpAny_callSpecial?_slot (name:=Str.ofString "__next__") hT F.slot_enumerate_next (wpAny_call_entry F.slot_enumerate_next hT F.entry_enumerate_next ?_ (F.args_enumerate_next_1 _))))
  show wpAny _ _ (field (.ref e) 2 >>= _) _ _ _
  refine wpAny_bind (wpAny_field he rfl (x:=.ref it) rfl (wpAny_bind (gk (A:=X.A.in1) (I.ok.hd hc) ht (show s.heap.IsTuple a its.toArray from p) (by simp;omega) fun g x ex hx'=>?_)))
  obtain ⟨o,ho,hcl⟩:=hx'
  exact wpAny_bind (wpAny_isInstance (T:="StopIteration") (b:=true) ⟨o,ho,hcl⟩ isSubtype_stop (wpAny_pure ⟨rfl,I.turned (t':=s.toks) (fun b o hb e=>ex b o hb e) f0 f1 f3 f4 f5⟩))
 self:=fun _ _ _ _ _ st h=>let ⟨_,he⟩:=st.1;wpAny_pyIter_enum he h
def Qp (K:PySem.W.Frag) (ta:TA):TI:=fun σ H R=>ta σ H fun vs H1=>∃ a,vs=[.ref a]/\(∃ xs,bI K H1 a xs)/\R (Mp K a) H1
theorem yG {X:Cx} {elts:List Expr} {k1} {pt:Pos} {a:Expr} {ta:TA} {p pos:Pos} (hg:Gl X "enumerate") (hm:X.mg "enumerate" = none) (hv:bootBuiltins "enumerate" = some (.type "enumerate")) (ha:PA X [a] ta) (hs:starEach [a] X.env=[(false,eval a X.env)]:=by rfl):PI X (.Tuple elts k1 pt) (.Call (.Name "enumerate" p) [a] [] pos) (Qp X.K ta):=by
 intro Z s σ H R I h
 refine Call_ (eU I hg hm hv (PyProof.Rows.callWith_type1 (cz (ha pos Z s σ H _ I h) fun us s1 ⟨vs,H1,I1,r1,q1⟩=>?_) hs rfl))
 obtain ⟨l,rfl,⟨xs,hq⟩,q⟩:=q1
 obtain ⟨u,rfl,e⟩:=vals1 r1
 cases (show u=Value.ref l from e)
 obtain ⟨its,rv,hp,hz⟩:=I1.tuple hq
 refine tQ (show s1.heap.IsTuple l its.toArray from hp) fun g he hi hk=>wpAny_pyIter_enum he ?_
 refine ⟨s1.heap.objs.size+1,[s1.heap.objs.size+1,s1.heap.objs.size],_,_,H1,rfl,I1.kept (t':=s1.toks) hk,t7 l _ s1.heap.objs.size (Nat.succ_ne_self _),⟨⟨_,he⟩,hi⟩,fun b hb=>?_,q⟩
 rcases List.mem_cons.mp hb with rfl|hb
 ·exact I1.fpOk (Nat.le_succ _) (I1.hok.fresh (Nat.le_succ _))
 ·cases List.mem_singleton.mp hb
  exact I1.fpOk (Nat.le_refl _) (I1.hok.fresh (Nat.le_refl _))
theorem xF {K:PySem.W.Frag} {a:Addr} {xs:List V} {g:TG} {tb:TS} {D:Ends} {σ:St} {H:Hp} (Pv:Nat->St->Hp->Prop) (h0:Pv 0 σ H) (hl:∀ i σ H,i≤xs.length->Pv i σ H->bI K H a xs)
 (hs:∀ i x σ H p,xs[i]?=some x->Pv i σ H->H p=none->g (.ref p) σ (upd H p (.tup [.int i,x])) fun σ2 H2=>tb { D with nx:=Pv (i+1),ct:=Pv (i+1),bk:=D.nx } σ2 H2)
 (hd:∀ σ H,Pv xs.length σ H->D.nx σ H) :
 ∃ W:Nat->Nat->St->Hp->Prop,(∃ m,W 0 m σ H)/\∀ i m σ H,W i m σ H->((Mp K a).stop i H/\D.nx σ H)∨((Mp K a).go i H/\∃ N:St->Hp->Prop,(∀ σ' H',N σ' H'->∃ m',m'<m/\W (i+1) m' σ' H')/\∀ x H',(Mp K a).yld i H x H'->g x σ H' fun σ2 H2=>tb { D with nx:=N,ct:=N,bk:=D.nx } σ2 H2):=by
 refine ⟨fun i m σ H=>m=xs.length-i/\i≤xs.length/\Pv i σ H,⟨xs.length,by simp,Nat.zero_le _,h0⟩,?_⟩
 rintro i m σ H ⟨rfl,hi,p⟩
 have q:=hl i σ H hi p
 by_cases hlt:i<xs.length
 ·refine .inr ⟨⟨xs,xs[i],q,by simp [hlt]⟩,Pv (i+1),fun σ' H' z=>⟨xs.length-(i+1),by omega,rfl,hlt,z⟩,?_⟩
  rintro x H' ⟨p',y,hn,rfl,hy,rfl⟩
  exact hs i y σ H p' (hy xs q) p hn
 ·have e:i=xs.length:=by omega
  subst e
  exact .inl ⟨⟨xs,q,Nat.le_refl _⟩,hd σ H p⟩
theorem gh:bootBuiltins "enumerate" = some (.type "enumerate"):=by ext
end L2
namespace L2
open PySem PySem.Spec PyProof.Rows PySem.SeqAt PySem.W
end L2
namespace L2
open PySem PySem.Spec PyProof.Rows PySem.SeqAt PySem.W Builtin.ObjectAttr
end L2
namespace L2
open PySem PySem.Spec PyProof.Rows
end L2
namespace L2
open PySem PySem.Spec PyProof.Rows PySem.SeqAt PySem.W Builtin.ObjectAttr
end L2
namespace L2
open PySem PySem.Spec PyProof.Rows
end L2
namespace L2
open PySem PySem.Spec PyProof.Rows PySem.W
end L2
namespace L2
open PySem PySem.Spec PyProof.Rows
end L2
namespace L2
open PySem PySem.Spec PyProof.Rows PySem.W
end L2
namespace L2
open PySem PySem.Spec PyProof.Rows PySem.SeqAt
end L2
namespace L2
open PySem PySem.Spec PyProof.Rows PySem.W
end L2
namespace L2
open PySem PySem.Spec PyProof.Rows
end L2
namespace L2
open PySem PySem.Spec PyProof.Rows PySem.SeqAt
theorem Rv {α:Type} {us:List α} (h:us.length=1):∃ a,us=[a]:=List.length_eq_one_iff.mp h
theorem Eb {α:Type} {us:List α} (h:us.length=2):∃ a b,us=[a,b]:=by
 cases us with
 |nil=>cases h
 | cons a r=>
   obtain ⟨b,rfl⟩:=Rv (us:=r) (by simpa using h)
   exact ⟨a,b,rfl⟩
theorem QK {α:Type} {us:List α} (h:us.length=3):∃ a b c,us=[a,b,c]:=by
 cases us with
 |nil=>cases h
 | cons a r=>
   obtain ⟨b,c,rfl⟩:=Eb (us:=r) (by simpa using h)
   exact ⟨a,b,c,rfl⟩
theorem Uv {α:Type} {us:List α} (h:us.length=4):∃ a b c d,us=[a,b,c,d]:=by
 cases us with
 |nil=>cases h
 | cons a r=>
   obtain ⟨b,c,d,rfl⟩:=QK (us:=r) (by simpa using h)
   exact ⟨a,b,c,d,rfl⟩
end L2
namespace L2
open PySem PySem.Spec PyProof.Rows
theorem lA:∀ {ns:List Int} {us:List Value},Vals (ns.map V.int) us->∃ ps:List (Int×Tok),us=ps.map (fun p=>Value.int p.1 p.2)/\ps.map (·.1)=ns
 |[],_,r=>by rw [List.map_nil] at r;cases r;exact ⟨[],rfl,rfl⟩
 | n::ns,_,r=>by
   rw [List.map_cons] at r
   cases r with
   | cons h t=>
     obtain ⟨tk,rfl⟩:=(show ∃ t,_=Value.int n t from h)
     obtain ⟨ps,e1,e2⟩:=lA t
     exact ⟨(n,tk)::ps,by rw [e1];rfl,by rw [List.map_cons,e2]⟩
theorem numAt_eq {ps:List (Int×Tok)} {ns:List Int} (e:ps.map (·.1)=ns) (h:i<ns.length):numAt ps.toArray i=ns[i]:=by
 subst e
 unfold numAt
 simp at h ⊢
 rw [List.getElem?_eq_getElem h]
 rfl
theorem rQ {ps:List (Int×Tok)}:(ps.map (fun p=>Value.int p.1 p.2)).toArray=intItems ps.toArray:=by
 unfold intItems
 simp
theorem yj (hc:X.calm=true):gF X (.builtin "max") (fun xs H Q=>∃ p ns,xs=[.ref p]/\bD X.K H p (ns.map V.int)/\ns≠[]/\∀ b,b∈ns->(∀ x∈ns,x≤b)->Q (.int b) H):=by
 intro Z s σ H xs us Q I r h
 obtain ⟨p,ns,rfl,hq,hne,q⟩:=h
 obtain ⟨u,rfl,ru⟩:=vals1 r
 cases (show u=Value.ref p from ru)
 obtain ⟨its,rv,pl,hz⟩:=I.list hq
 obtain ⟨ps,rfl,e⟩:=lA rv
 have hl:ps.length=ns.length:=by rw [← e,List.length_map]
 have hpos:0<ns.length:=List.length_pos_iff.mpr hne
 have pl':=pl.isList
 rw [rQ] at pl'
 refine max_intList (I.ok.hd hc) pl' (by simp;omega) fun v h' tk hv k=>?_
 have hb:=argBest_gt (numAt ps.toArray) (ps.toArray.size-1)
 generalize argBest (fun i j=>decide (numAt ps.toArray i > numAt ps.toArray j)) (ps.toArray.size-1)=m at hv hb
 have hm:m<ns.length:=by have:=hb.1;simp at this;omega
 obtain ⟨t,rfl⟩:=intItems_at hv
 rw [numAt_eq e hm]
 refine ⟨.int ns[m],H,I.kept k,⟨_,rfl⟩,q _ (List.getElem_mem hm) fun x hx=>?_⟩
 obtain ⟨j,hj,rfl⟩:=List.getElem_of_mem hx
 have:=hb.2 j (by simp;omega)
 rw [numAt_eq e hj,numAt_eq e hm] at this
 exact this
end L2
namespace L2
open PySem PySem.Spec PyProof.Rows PySem.SeqAt
def jW (t:TE) (σ:St) (H:Hp) (v:V):Prop:=∀ Q:VK,Q v H->t σ H Q
def Bq (t:TT) (σ:St) (H:Hp) (b:Bool):Prop:=∀ Q:Bool->Hp->Prop,Q b H->t σ H Q
def yq (r:R2) (x y:V) (H:Hp) (v:V):Prop:=∀ Q:VK,Q v H->r x y H Q
theorem jW.var (h:σ[i]?=some (some v)):jW (rC i) σ H v:=fun Q q=>⟨v,h,q⟩
theorem jW.con:jW (tC v) σ H v:=fun Q q=>q
theorem jW.neg (a:jW ta σ H (.int i)):jW (WD (rU fun i=>.int (-i)) ta) σ H (.int (-i)):=fun Q q=>a _ ⟨i,rfl,q⟩
theorem yq.i0:yq (Br g) (.int i) (.int j) H (g i j):=fun Q q=>⟨i,j,rfl,rfl,q⟩
theorem Bq.test (a:jW t σ H (.bl k)):Bq (wu t) σ H k:=fun Q q=>a _ ⟨k,rfl,q⟩
theorem jW.chain (a:jW ta σ H x) (b:jW tb σ H y) (c:jW tc σ H z) (h:yq r x y H (.bl k)) (h':yq r' y z H (.bl k')):jW (tO r r' ta tb tc) σ H (.bl (k && k')):=fun Q q=>a _ (b _ (h _ ⟨k,rfl,by
 cases k with
 |false=>exact cg rfl q
 |true=>exact cL rfl (c _ (h' _ q))⟩))
theorem Bq.not (a:Bq t σ H k):Bq (Ou t) σ H (!k):=fun Q q=>a _ q
theorem Bq.iff (h:Bq t σ H k) (q:if k=true then a D σ H else b D σ H):Px t a b D σ H:=h _ q
def Uw (K:PySem.W.Frag):R2:=fun x y H Q=>∃ d e,Rep K H x (.list d)/\Rep K H y (.list e)/\bK d≤60/\Q (.bl (!di d e)) H
theorem KY (hu:X.A.units+64<cLine):iT X (compareOp .NotEq) (Uw X.K):=by
 intro Z s σ H x y v u Q I rx ry h
 obtain ⟨d,e,h1,h2,hd,q⟩:=h
 cases h1 with
 | lst g1 rs1=>
   cases h2 with
   | lst g2 rs2=>
     cases (show v=Value.ref _ from rx)
     cases (show u=Value.ref _ from ry)
     obtain ⟨its1,rv1,p1,_⟩:=I.list g1
     obtain ⟨its2,rv2,p2,_⟩:=I.list g2
     have hz:=z7 (X:=X) (H:=H) (A:=X.A) rs1 rs2 rv1 rv2
     by_cases hs:its1.toArray.size=its2.toArray.size
     ·have hw:=RcNeAt.lists (A:=X.A) p1.isList p2.isList hs (by omega)
       (e:=fun j=>cu (d.getD j .none) (e.getD j .none)) (fun j h1 h2=>by simpa using p_ I rs1 rs2 rv1 rv2 (A:=X.A.in1) (by show X.A.units+1+_<_;omega) j (by simpa using h1) (by simpa using h2))
      rw [← hs,Nat.min_self,beq_self_eq_true,Bool.and_true] at hz
      rw [hz] at hw
      exact hw _ _ _ _ ⟨.bl _,H,I,rfl,q⟩
     ·have hw:=RcNeAt.lists_lengths (A:=X.A) p1.isList p2.isList (by simpa using hs) (by omega)
      have:di d e=false:=by
       rw [← hz,beq_eq_false_iff_ne.mpr hs,Bool.and_false]
      rw [this] at q
      exact hw _ _ _ _ ⟨.bl _,H,I,rfl,q⟩
theorem j7 {f:Nat->Int} {ns:List Int} (h:∀ i (hi:i<ns.length),f i=ns[i]):∀ k,k≤ns.length->preSum f k=(ns.take k).sum
 |0,_=>rfl
 | k+1,hk=>by
   have hk':k<ns.length:=hk
   show preSum f k+f k=_
   rw [j7 h k (Nat.le_of_lt hk'),h k hk',List.take_add_one,List.getElem?_eq_getElem hk',List.sum_append]
   simp
theorem sum_bound:∀ {ns:List Int},(∀ x∈ns,-B≤x/\x≤B)->0≤B->-(B*ns.length)≤ns.sum/\ns.sum≤B*ns.length
 |[],_,_=>by simp
 | n::ns,h,hB=>by
   have h1:=h n (List.mem_cons_self ..)
   have h2:=sum_bound (ns:=ns) (fun x hx=>h x (List.mem_cons_of_mem _ hx)) hB
   rw [List.sum_cons,List.length_cons,Int.natCast_succ,Int.mul_add,Int.mul_one]
   omega
theorem oY {X:Cx} (hc:X.calm=true):gF X (.builtin "sum") (fun xs H Q=>∃ (p:Addr) (ns:List Int),xs=[.ref p]/\bD X.K H p (ns.map V.int)/\ns.length≤1000/\(∀ x∈ns,-10000000000000≤x/\x≤10000000000000)/\Q (.int ns.sum) H):=by
 intro Z s σ H xs us Q I r h
 obtain ⟨p,ns,rfl,hq,hl,hb,q⟩:=h
 obtain ⟨u,rfl,ru⟩:=vals1 r
 cases (show u=Value.ref p from ru)
 obtain ⟨its,rv,pl,hz⟩:=I.list hq
 obtain ⟨ps,rfl,e⟩:=lA rv
 have hlen:ps.length=ns.length:=by rw [← e,List.length_map]
 have pl':=pl.isList
 rw [rQ] at pl'
 have at_:∀ i (hi:i<ns.length),numAt ps.toArray i=ns[i]:=fun i hi=>numAt_eq e hi
 refine sum_intList (I.ok.hd hc) pl' (fun j hj=>?_) fun h' tk t' k=>?_
 ·have hj':j<ns.length:=by simpa [hlen] using hj
  rw [at_ j hj',j7 at_ (j+1) hj']
  have b1:=hb _ (List.getElem_mem hj')
  have b2:=sum_bound (B:=10000000000000) (ns:=ns.take (j+1)) (fun x hx=>hb x (List.mem_of_mem_take hx)) (by decide)
  have b3:(ns.take (j+1)).length≤1000:=by rw [List.length_take];omega
  refine ⟨⟨?_,?_⟩,?_,?_⟩ <;> omega
 ·have:preSum (numAt ps.toArray) ps.toArray.size=ns.sum:=by
   rw [List.size_toArray,hlen,j7 at_ _ (Nat.le_refl _),List.take_length]
  rw [this]
  exact ⟨.int _,H,I.kept k,⟨_,rfl⟩,q⟩
theorem Vals.pick (r:Vals xs us):∀ L:List Nat,Vals (L.filterMap (xs[·]?)) (L.filterMap (us[·]?))
 |[]=>.nil
 | i::L=>by
   cases e:xs[i]? with
   | none=>
     have e2:us[i]?=none:=by
      rw [List.getElem?_eq_none_iff] at e ⊢
      rw [← r.length];exact e
     rw [List.filterMap_cons_none e,List.filterMap_cons_none e2]
     exact Vals.pick r L
   | some x=>
     obtain ⟨u,e2,rl⟩:=r.get e
     rw [List.filterMap_cons_some e,List.filterMap_cons_some e2]
     exact .cons rl (Vals.pick r L)
end L2
namespace L2
open PySem PySem.Spec PyProof.Rows
end L2
namespace L2
open PySem
theorem zg (hK:X.K=K) (hl:PE X l tl):PI X tg l (vB K tl):=by
 subst hK
 exact dM hl
end L2
namespace L2
open PySem PySem.Spec PyProof.Rows PySem.SeqAt
abbrev fD (h:Heap) (z TI TO:Addr) (f0:Value) (b:Bool):Prop:=
 h.get? z=some { cls:=.type "zip",dict:=none,data:=.fields #[f0,.bool b,.bool false,.ref TI,.ref TO],slots:=#[] }
section
variable {prog:Program} {w:World} {A:Around} {E:Value->Shared->Prop} {s:Shared}
theorem xZ (h:Q (s.heap.get? a) s):wpAny (model prog w) A (loadIfAlive a) Q E s:=by
 exact fun _ _ _=>h
theorem rZ {z TI TO:Addr} {f0:Value} {b:Bool} {Q:Bool->Shared->Prop} (hz:fD s.heap z TI TO f0 b) (hf:f0=.none∨∃ a:Int,f0=rawInt a)
 (hT:Q true s) (hF:∀ h',fD h' z TI TO f0 true->Heap.SameBut z s.heap h'->Q false { s with heap:=h' }):wpAny (model prog w) A (Builtin.SmallTypes.ownedTupleIsFree (.ref z)) Q E s:=by
 unfold Builtin.SmallTypes.ownedTupleIsFree
 rcases hf with rfl|⟨a,rfl⟩
 ·exact wpAny_bind (wpAny_field hz rfl (x:=.none) rfl (wpAny_pure hT))
 ·refine wpAny_bind (wpAny_field hz rfl (x:=rawInt a) rfl ?_)
  show wpAny _ _ (loadIfAlive a.toNat >>= _) _ _ _
  refine wpAny_bind (xZ ?_)
  cases hR:s.heap.get? a.toNat with
  |none=>exact wpAny_pure hT
  | some o=>
    show wpAny _ _ (field (.ref z) 1 >>= _) _ _ _
    refine wpAny_bind (wpAny_field hz rfl (x:=.bool b) rfl ?_)
    cases b with
    |true=>exact wpAny_pure (hF s.heap hz (Heap.SameBut.refl ..))
    | false=>
      show wpAny _ _ (setField (.ref z) 1 (.bool true) >>= _) _ _ _
      exact wpAny_bind (wpAny_setField_rec hz (by simp) fun h₁ hz₁ hs₁=>wpAny_pure (hF h₁ hz₁ hs₁))
structure ZS (h:Heap) (z TI TO i1 i2 a1 a2:Addr) (k1 k2:Nat):Prop where
 zz:∃ f0 b,fD h z TI TO f0 b/\(f0=.none∨∃ a:Int,f0=rawInt a)
 ti:IsPair h TI (.ref i1) (.ref i2)
 to:∃ x y,IsPair h TO x y
 h1:h.IsTupleIter i1 a1 k1
 h2:h.IsTupleIter i2 a2 k2
theorem bO (x:h.IsTupleIter it l i) (hs:Heap.ExtBut c h h') (hc:it≠c):h'.IsTupleIter it l i:=x.at fun o e=>hs _ _ hc e
theorem cV (x:h.IsTuple l xs) (hs:Heap.ExtBut c h h') (hc:l≠c):h'.IsTuple l xs:=let ⟨o,e,r⟩:=x;⟨o,hs _ _ hc e,r⟩
theorem wZ {z TI TO i1 i2 a1 a2:Addr} {k1 k2:Nat} {xs ys:Array Value} {x y:Value} {Q:Value->Shared->Prop} (D:ZipApart z TI TO i1 i2 a1 a2) (S:ZS s.heap z TI TO i1 i2 a1 a2 k1 k2)
 (t1:s.heap.IsTuple a1 xs) (t2:s.heap.IsTuple a2 ys) (hx:xs[k1]?=some x) (hy:ys[k2]?=some y)
 (hQ:∀ h',ZS h' z TI TO i1 i2 a1 a2 (k1+1) (k2+1)->IsPair h' s.heap.objs.size x y->h'.objs.size=s.heap.objs.size+1->
  (∀ c o,c≠z->c≠TO->c≠i1->c≠i2->s.heap.get? c=some o->h'.get? c=some o)->Q (.ref s.heap.objs.size) { s with heap:=h' }) :
 wpAny (model prog w) A (Builtin.«zip.__next__» ⟨[.ref z],[]⟩) (fun fin s'=>∃ v,fin=.done (.ret v)/\Q v s') E s:=by
 obtain ⟨⟨f0,b,hz,hf⟩,hTI,⟨a,b',hTO⟩,h1,h2⟩:=S
 show wpAny _ _ (field (.ref z) 2 >>= _) _ _ _
 refine wpAny_bind (wpAny_field hz rfl (x:=.bool false) rfl ?_)
 show wpAny _ _ (field (.ref z) 3 >>= _) _ _ _
 refine wpAny_bind (wpAny_field hz rfl (x:=.ref TI) rfl ?_)
 refine wpAny_bind (wpAny_seqItems hTI rfl ?_)
 show wpAny _ _ (Builtin.SmallTypes.ownedTupleIsFree (.ref z) >>= _) _ _ _
 refine wpAny_bind (rZ hz hf ?_ fun h₀ hz₀ hs₀=>?_)
 ·simp only [if_true]
  refine wpAny_bind (wpAny_rule ?_)
  refine wpAny_bind (wpAny_field hz rfl (x:=.ref TO) rfl ?_)
  refine wpAny_bind (wpAny_setField_rec hz (by simp) fun h₁ hz₁ hs₁=>?_)
  replace hz₁:fD h₁ z TI TO .ellipsis b:=hz₁
  refine wpAny_bind ?_
  simp only [List.zipIdx_cons,List.zipIdx_nil,List.forIn_cons,List.forIn_nil]
  refine wpAny_bind (wpAny_bind (wpAny_onRaise ?_))
  show wpAny _ _ (Builtin.SmallTypes.nextOf (.ref i1) >>= _) _ _ _
  refine wpAny_bind (gq (bO h1 hs₁.extBut D.i1z) (cV t1 hs₁.extBut D.l1z) hx fun h₂ h1₂ hs₂=>wpAny_pure ?_)
  have hTO₂:IsPair h₂ TO a b':=hs₂.extBut _ _ D.TOi1 (hs₁.extBut _ _ D.TOz hTO)
  refine wpAny_bind (wpAny_seqItems hTO₂ rfl ?_)
  refine wpAny_bind (wpAny_updateSeq_pair hTO₂ fun h₃ hTO₃ hs₃=>?_)
  replace hTO₃:IsPair h₃ TO x b':=hTO₃
  refine wpAny_bind (wpAny_letGo (wpAny_pure ?_))
  refine wpAny_bind (wpAny_bind (wpAny_onRaise ?_))
  show wpAny _ _ (Builtin.SmallTypes.nextOf (.ref i2) >>= _) _ _ _
  refine wpAny_bind (gq (bO (bO (bO h2 hs₁.extBut D.i2z) hs₂.extBut D.i12.symm) hs₃.extBut D.TOi2.symm)
   (cV (cV (cV t2 hs₁.extBut D.l2z) hs₂.extBut D.l2i1) hs₃.extBut D.l2TO) hy fun h₄ h2₄ hs₄=>wpAny_pure ?_)
  have hTO₄:IsPair h₄ TO x b':=hs₄.extBut _ _ D.TOi2 hTO₃
  refine wpAny_bind (wpAny_seqItems hTO₄ rfl ?_)
  refine wpAny_bind (wpAny_updateSeq_pair hTO₄ fun h₅ hTO₅ hs₅=>?_)
  replace hTO₅:IsPair h₅ TO x y:=hTO₅
  refine wpAny_bind (wpAny_letGo (wpAny_pure (wpAny_pure ?_)))
  refine wpAny_bind (wpAny_seqItems hTO₅ rfl ?_)
  refine wpAny_bind (wpAny_newTuple ?_)
  have hsz:h₅.objs.size=s.heap.objs.size:=by rw [hs₅.1,hs₄.1,hs₃.1,hs₂.1,hs₁.1]
  have hz₅:fD h₅ z TI TO .ellipsis b:=hs₅.extBut _ _ D.TOz.symm (hs₄.extBut _ _ D.i2z.symm (hs₃.extBut _ _ D.TOz.symm (hs₂.extBut _ _ D.i1z.symm hz₁)))
  have hk₅:∀ c o,c≠z->c≠TO->c≠i1->c≠i2->s.heap.get? c=some o->h₅.get? c=some o:=fun c o c1 c2 c3 c4 e=>
   hs₅.extBut _ _ c2 (hs₄.extBut _ _ c4 (hs₃.extBut _ _ c2 (hs₂.extBut _ _ c3 (hs₁.extBut _ _ c1 e))))
  have h1₅:h₅.IsTupleIter i1 a1 (k1+1):=bO (bO (bO h1₂ hs₃.extBut D.TOi1.symm) hs₄.extBut D.i12) hs₅.extBut D.TOi1.symm
  have h2₅:h₅.IsTupleIter i2 a2 (k2+1):=bO h2₄ hs₅.extBut D.TOi2.symm
  have hzlt:z<h₅.objs.size:=Heap.lt_size hz₅
  show wpAny _ _ (Builtin.SmallTypes.ownedTupleHandOut (.ref z) (.ref h₅.objs.size) >>= _) _ _ _
  refine wpAny_bind ?_
  unfold Builtin.SmallTypes.ownedTupleHandOut
  have hz₆:fD (h₅.push { cls:=.type "tuple",data:=.seq #[x,y] }) z TI TO .ellipsis b:=Heap.get?_push_of_some _ hz₅
  refine wpAny_bind (wpAny_setField_rec hz₆ (by simp) fun h₇ hz₇ hs₇=>?_)
  replace hz₇:fD h₇ z TI TO (rawInt h₅.objs.size) b:=hz₇
  refine wpAny_setField_rec hz₇ (by simp) fun h₈ hz₈ hs₈=>?_
  replace hz₈:fD h₈ z TI TO (rawInt h₅.objs.size) false:=hz₈
  have up:∀ c o,c≠z->h₅.get? c=some o->h₈.get? c=some o:=fun c o c1 e=>hs₈.extBut _ _ c1 (hs₇.extBut _ _ c1 (Heap.get?_push_of_some _ e))
  have hT₈:IsPair h₈ h₅.objs.size x y:=hs₈.extBut _ _ (Nat.ne_of_gt hzlt) (hs₇.extBut _ _ (Nat.ne_of_gt hzlt) (Heap.get?_push_size _ rfl))
  have hz8:h₈.objs.size=h₅.objs.size+1:=by rw [hs₈.1,hs₇.1,Heap.size_push]
  rw [hsz] at hT₈ hz8
  refine wpAny_pure ⟨_,rfl,?_⟩
  show Q (.ref h₅.objs.size) _
  rw [hsz]
  exact hQ h₈ ⟨⟨_,_,hz₈,.inr ⟨_,rfl⟩⟩,up _ _ D.TIz (hk₅ _ _ D.TIz D.TITO D.TIi1 D.TIi2 hTI),⟨_,_,up _ _ D.TOz hTO₅⟩,h1₅.at fun o e=>up _ o D.i1z e,h2₅.at fun o e=>up _ o D.i2z e⟩ hT₈ hz8 fun c o c1 c2 c3 c4 e=>up c o c1 (hk₅ c o c1 c2 c3 c4 e)
 ·simp only [Bool.false_eq_true,if_false]
  rw [← Array.forIn_toList]
  simp only [List.forIn_cons,List.forIn_nil]
  refine wpAny_bind (wpAny_bind (wpAny_bind (wpAny_holding ?_)))
  show wpAny _ _ (Builtin.SmallTypes.nextOf (.ref i1) >>= _) _ _ _
  refine wpAny_bind (gq (bO h1 hs₀.extBut D.i1z) (cV t1 hs₀.extBut D.l1z) hx fun h₂ h1₂ hs₂=>wpAny_pure (wpAny_pure ?_))
  dsimp only
  refine wpAny_bind (wpAny_bind (wpAny_holding ?_))
  show wpAny _ _ (Builtin.SmallTypes.nextOf (.ref i2) >>= _) _ _ _
  refine wpAny_bind (gq (bO (bO h2 hs₀.extBut D.i2z) hs₂.extBut D.i12.symm) (cV (cV t2 hs₀.extBut D.l2z) hs₂.extBut D.l2i1) hy fun h₄ h2₄ hs₄=>wpAny_pure (wpAny_pure ?_))
  dsimp only
  refine wpAny_pure ?_
  dsimp only
  refine wpAny_bind (wpAny_newTuple ?_ (by ext))
  have hsz:h₄.objs.size=s.heap.objs.size:=by rw [hs₄.1,hs₂.1,hs₀.1]
  have hk₄:∀ c o,c≠z->c≠TO->c≠i1->c≠i2->s.heap.get? c=some o->h₄.get? c=some o:=fun c o c1 c2 c3 c4 e=>hs₄.extBut _ _ c4 (hs₂.extBut _ _ c3 (hs₀.extBut _ _ c1 e))
  have hz₄:fD h₄ z TI TO f0 true:=hs₄.extBut _ _ D.i2z.symm (hs₂.extBut _ _ D.i1z.symm hz₀)
  have up:∀ c o,h₄.get? c=some o->(h₄.push { cls:=.type "tuple",data:=.seq #[x,y] }).get? c=some o:=fun c o e=>Heap.get?_push_of_some _ e
  refine wpAny_pure ⟨_,rfl,?_⟩
  show Q (.ref h₄.objs.size) _
  have hT:IsPair (h₄.push { cls:=.type "tuple",data:=.seq #[x,y] }) h₄.objs.size x y:=Heap.get?_push_size _ rfl
  have hz8:(h₄.push { cls:=.type "tuple",data:=.seq #[x,y] }).objs.size=h₄.objs.size+1:=Heap.size_push ..
  rw [hsz] at hT hz8
  rw [hsz]
  have hTO₄:IsPair h₄ TO a b':=hs₄.extBut _ _ D.TOi2 (hs₂.extBut _ _ D.TOi1 (hs₀.extBut _ _ D.TOz hTO))
  exact hQ _ ⟨⟨_,_,up _ _ hz₄,hf⟩,up _ _ (hk₄ _ _ D.TIz D.TITO D.TIi1 D.TIi2 hTI),⟨_,_,up _ _ hTO₄⟩,(bO h1₂ hs₄.extBut D.i12).at fun o e=>up _ o e,h2₄.at fun o e=>up _ o e⟩ hT hz8 fun c o c1 c2 c3 c4 e=>up c o (hk₄ c o c1 c2 c3 c4 e)
theorem Ay {z TI TO i1 i2 a1 a2:Addr} {k1 k2:Nat} {xs ys:Array Value} {Q:Fin->Shared->Prop} (hh:A.handled=none) (D:ZipApart z TI TO i1 i2 a1 a2) (S:ZS s.heap z TI TO i1 i2 a1 a2 k1 k2)
 (t1:s.heap.IsTuple a1 xs) (t2:s.heap.IsTuple a2 ys) (hend:xs[k1]?=none∨ys[k2]?=none)
 (hE:∀ h' e,(∀ c o,c≠z->c≠TO->c≠i1->c≠i2->s.heap.get? c=some o->h'.get? c=some o)->(∃ o,h'.get? e=some o/\o.cls=.type "StopIteration")->E (.ref e) { s with heap:=h' }) :
 wpAny (model prog w) A (Builtin.«zip.__next__» ⟨[.ref z],[]⟩) Q E s:=by
 obtain ⟨⟨f0,b,hz,hf⟩,hTI,⟨a,b',hTO⟩,h1,h2⟩:=S
 show wpAny _ _ (field (.ref z) 2 >>= _) _ _ _
 refine wpAny_bind (wpAny_field hz rfl (x:=.bool false) rfl ?_)
 show wpAny _ _ (field (.ref z) 3 >>= _) _ _ _
 refine wpAny_bind (wpAny_field hz rfl (x:=.ref TI) rfl ?_)
 refine wpAny_bind (wpAny_seqItems hTI rfl ?_)
 show wpAny _ _ (Builtin.SmallTypes.ownedTupleIsFree (.ref z) >>= _) _ _ _
 refine wpAny_bind (rZ hz hf ?_ fun h₀ hz₀ hs₀=>?_)
 ·simp only [if_true]
  refine wpAny_bind (wpAny_rule ?_)
  refine wpAny_bind (wpAny_field hz rfl (x:=.ref TO) rfl ?_)
  refine wpAny_bind (wpAny_setField_rec hz (by simp) fun h₁ hz₁ hs₁=>?_)
  replace hz₁:fD h₁ z TI TO .ellipsis b:=hz₁
  refine wpAny_bind ?_
  simp only [List.zipIdx_cons,List.zipIdx_nil,List.forIn_cons,List.forIn_nil]
  refine wpAny_bind (wpAny_bind (wpAny_onRaise ?_))
  show wpAny _ _ (Builtin.SmallTypes.nextOf (.ref i1) >>= _) _ _ _
  cases hx:xs[k1]? with
  | none=>
    refine wpAny_bind (gk hh (bO h1 hs₁.extBut D.i1z) (cV t1 hs₁.extBut D.l1z) hx fun h₂ e hs₂ he=>?_)
    obtain ⟨oe,hoe,hce⟩:=he
    have hz₂:fD h₂ z TI TO .ellipsis b:=hs₂ _ _ D.i1z.symm hz₁
    have hez:e≠z:=fun x=>by subst x;rw [hz₂] at hoe;cases hoe;simp at hce
    refine wpAny_setField_rec hz₂ (by simp) fun h₃ _ hs₃=>hE h₃ e (fun c o c1 _ c3 _ x=>hs₃.extBut _ _ c1 (hs₂ _ _ c3 (hs₁.extBut _ _ c1 x))) ⟨oe,hs₃.extBut _ _ hez hoe,hce⟩
  | some x=>
    have hy:ys[k2]?=none:=by rcases hend with h|h;rw [hx] at h;cases h;exact h
    refine wpAny_bind (gq (bO h1 hs₁.extBut D.i1z) (cV t1 hs₁.extBut D.l1z) hx fun h₂ h1₂ hs₂=>wpAny_pure ?_)
    have hTO₂:IsPair h₂ TO a b':=hs₂.extBut _ _ D.TOi1 (hs₁.extBut _ _ D.TOz hTO)
    refine wpAny_bind (wpAny_seqItems hTO₂ rfl ?_)
    refine wpAny_bind (wpAny_updateSeq_pair hTO₂ fun h₃ hTO₃ hs₃=>?_)
    refine wpAny_bind (wpAny_letGo (wpAny_pure ?_))
    refine wpAny_bind (wpAny_bind (wpAny_onRaise ?_))
    show wpAny _ _ (Builtin.SmallTypes.nextOf (.ref i2) >>= _) _ _ _
    refine wpAny_bind (gk hh (bO (bO (bO h2 hs₁.extBut D.i2z) hs₂.extBut D.i12.symm) hs₃.extBut D.TOi2.symm)
     (cV (cV (cV t2 hs₁.extBut D.l2z) hs₂.extBut D.l2i1) hs₃.extBut D.l2TO) hy fun h₄ e hs₄ he=>?_)
    obtain ⟨oe,hoe,hce⟩:=he
    have hz₄:fD h₄ z TI TO .ellipsis b:=hs₄ _ _ D.i2z.symm (hs₃.extBut _ _ D.TOz.symm (hs₂.extBut _ _ D.i1z.symm hz₁))
    have hez:e≠z:=fun x=>by subst x;rw [hz₄] at hoe;cases hoe;simp at hce
    refine wpAny_setField_rec hz₄ (by simp) fun h₅ _ hs₅=>hE h₅ e (fun c o c1 c2 c3 c4 x=>hs₅.extBut _ _ c1 (hs₄ _ _ c4 (hs₃.extBut _ _ c2 (hs₂.extBut _ _ c3 (hs₁.extBut _ _ c1 x))))) ⟨oe,hs₅.extBut _ _ hez hoe,hce⟩
 ·simp only [Bool.false_eq_true,if_false]
  rw [← Array.forIn_toList]
  simp only [List.forIn_cons,List.forIn_nil]
  refine wpAny_bind (wpAny_bind (wpAny_bind (wpAny_holding ?_)))
  show wpAny _ _ (Builtin.SmallTypes.nextOf (.ref i1) >>= _) _ _ _
  cases hx:xs[k1]? with
  | none=>
    refine wpAny_bind (gk hh (bO h1 hs₀.extBut D.i1z) (cV t1 hs₀.extBut D.l1z) hx fun h₂ e hs₂ he=>?_)
    exact hE h₂ e (fun c o c1 _ c3 _ x=>hs₂ _ _ c3 (hs₀.extBut _ _ c1 x)) he
  | some x=>
    have hy:ys[k2]?=none:=by rcases hend with h|h;rw [hx] at h;cases h;exact h
    refine wpAny_bind (gq (bO h1 hs₀.extBut D.i1z) (cV t1 hs₀.extBut D.l1z) hx fun h₂ h1₂ hs₂=>wpAny_pure (wpAny_pure ?_))
    dsimp only
    refine wpAny_bind (wpAny_bind (wpAny_holding ?_))
    show wpAny _ _ (Builtin.SmallTypes.nextOf (.ref i2) >>= _) _ _ _
    refine wpAny_bind (gk hh (bO (bO h2 hs₀.extBut D.i2z) hs₂.extBut D.i12.symm) (cV (cV t2 hs₀.extBut D.l2z) hs₂.extBut D.l2i1) hy fun h₄ e hs₄ he=>?_)
    exact hE h₄ e (fun c o c1 c2 c3 c4 x=>hs₄ _ _ c4 (hs₂.extBut _ _ c3 (hs₀.extBut _ _ c1 x))) he
theorem tX {z TI TO i1 i2 a1 a2:Addr} {k1 k2:Nat} {xs ys:Array Value} {x y:Value} {Q:Value->Shared->Prop} (D:ZipApart z TI TO i1 i2 a1 a2) (S:ZS s.heap z TI TO i1 i2 a1 a2 k1 k2)
 (t1:s.heap.IsTuple a1 xs) (t2:s.heap.IsTuple a2 ys) (hx:xs[k1]?=some x) (hy:ys[k2]?=some y)
 (hQ:∀ h',ZS h' z TI TO i1 i2 a1 a2 (k1+1) (k2+1)->IsPair h' s.heap.objs.size x y->h'.objs.size=s.heap.objs.size+1->
  (∀ c o,c≠z->c≠TO->c≠i1->c≠i2->s.heap.get? c=some o->h'.get? c=some o)->Q (.ref s.heap.objs.size) { s with heap:=h' }) :
 wpAny (model prog w) A (Builtin.SmallTypes.nextOf (.ref z)) Q E s:=by
 obtain ⟨f0,b,hz,_⟩:=S.zz
 have hT:s.TypeIs (.ref z) "zip":=⟨_,hz,rfl⟩
 unfold Builtin.SmallTypes.nextOf
 exact wpAny_bind (wpAny_callSpecial?_slot (name:=Str.ofString "__next__") hT F.slot_zip_next (wpAny_call_entry F.slot_zip_next hT F.entry_zip_next
  (wZ D S t1 t2 hx hy fun h' a1 a2 a3 a4=>wpAny_pure (hQ h' a1 a2 a3 a4)) (F.args_zip_next_1 _)))
theorem xM {z TI TO i1 i2 a1 a2:Addr} {k1 k2:Nat} {xs ys:Array Value} {Q:Value->Shared->Prop} (hh:A.handled=none) (D:ZipApart z TI TO i1 i2 a1 a2) (S:ZS s.heap z TI TO i1 i2 a1 a2 k1 k2)
 (t1:s.heap.IsTuple a1 xs) (t2:s.heap.IsTuple a2 ys) (hend:xs[k1]?=none∨ys[k2]?=none)
 (hE:∀ h' e,(∀ c o,c≠z->c≠TO->c≠i1->c≠i2->s.heap.get? c=some o->h'.get? c=some o)->(∃ o,h'.get? e=some o/\o.cls=.type "StopIteration")->E (.ref e) { s with heap:=h' }) :
 wpAny (model prog w) A (Builtin.SmallTypes.nextOf (.ref z)) Q E s:=by
 obtain ⟨f0,b,hz,_⟩:=S.zz
 have hT:s.TypeIs (.ref z) "zip":=⟨_,hz,rfl⟩
 unfold Builtin.SmallTypes.nextOf
 exact wpAny_bind (wpAny_callSpecial?_slot (name:=Str.ofString "__next__") hT F.slot_zip_next (wpAny_call_entry F.slot_zip_next hT F.entry_zip_next (Ay (A:=A.in1) hh D S t1 t2 hend hE) (F.args_zip_next_1 _)))
theorem xX {e it:Addr} {i:Nat} {old:Value} {Q:Value->Shared->Prop} (he:IsEnum s.heap e it i old)
 (draw:wpAny (model prog w) A (Builtin.SmallTypes.nextOf (.ref it)) (fun x s₁=>∃ h₁ tk,s₁={ s with heap:=h₁,toks:=tk }/\IsEnum h₁ e it i old/\
  ∀ h',IsEnumOut h' e it ((i:Int)+1) x h₁.objs.size->h'.get? h₁.objs.size=some { cls:=.type "tuple",data:=.seq #[.int i tk,x] }->(∀ b o,b≠e->h₁.get? b=some o->h'.get? b=some o)->
    Q (.ref h₁.objs.size) { s with heap:=h',toks:=tk+1 }) E s) :
 wpAny (model prog w) A (Builtin.«enumerate.__next__» ⟨[.ref e],[]⟩) (fun fin s'=>∃ v,fin=.done (.ret v)/\Q v s') E s:=by
 obtain ⟨hp,g,d,tk₀,os⟩:=s
 show wpAny _ _ (field (.ref e) 2 >>= _) _ _ _
 refine wpAny_bind (wpAny_field he rfl (x:=.ref it) rfl ?_)
 refine wpAny_bind (wpAny_mono draw (fun x s₁ hx=>?_) fun _ _ z=>z)
 obtain ⟨h₁,tk,rfl,he₁,hQ⟩:=hx
 show wpAny _ _ (field (.ref e) 3 >>= _) _ _ ⟨h₁,g,d,tk,os⟩
 refine wpAny_bind (wpAny_field he₁ rfl (x:=rawInt i) rfl ?_)
 show wpAny _ _ (field (.ref e) 4 >>= _) _ _ ⟨h₁,g,d,tk,os⟩
 refine wpAny_bind (wpAny_field he₁ rfl (x:=.none) rfl ?_)
 show wpAny _ _ (mkInt i >>= _) _ _ ⟨h₁,g,d,tk,os⟩
 refine wpAny_bind (wpAny_mkInt ?_)
 show wpAny _ _ (setField (.ref e) 3 (rawInt ((i:Int)+1)) >>= _) _ _ ⟨h₁,g,d,tk+1,os⟩
 refine wpAny_bind (wpAny_setField_rec he₁ (by simp) fun h₂ he₂ hs₂=>?_)
 replace hs₂:Heap.SameBut e h₁ h₂:=hs₂
 replace he₂:IsEnum h₂ e it ((i:Int)+1) old:=he₂
 show wpAny _ _ (setField (.ref e) 4 .none >>= _) _ _ ⟨h₂,g,d,tk+1,os⟩
 refine wpAny_bind (wpAny_setField_rec he₂ (by simp) fun h₃ he₃ hs₃=>?_)
 replace hs₃:Heap.SameBut e h₂ h₃:=hs₃
 replace he₃:IsEnum h₃ e it ((i:Int)+1) old:=he₃
 show wpAny _ _ (newTuple [.int i tk,x] >>= _) _ _ ⟨h₃,g,d,tk+1,os⟩
 refine wpAny_bind (wpAny_newTuple ?_)
 have he₄:IsEnum (h₃.push { cls:=.type "tuple",data:=.seq #[.int i tk,x] }) e it ((i:Int)+1) old:=Heap.get?_push_of_some _ he₃
 have hsz:h₃.objs.size=h₁.objs.size:=by rw [hs₃.1,hs₂.1]
 have ht₄:(h₃.push { cls:=.type "tuple",data:=.seq #[.int i tk,x] }).get? h₃.objs.size=some { cls:=.type "tuple",data:=.seq #[.int i tk,x] }:=Heap.get?_push_size _ rfl
 have hk₄:∀ b o,b≠e->h₁.get? b=some o->(h₃.push { cls:=.type "tuple",data:=.seq #[.int i tk,x] }).get? b=some o:=fun b o hbe hb=>Heap.get?_push_of_some _ (hs₃.extBut b o hbe (hs₂.extBut b o hbe hb))
 have hel:e<h₃.objs.size:=Heap.lt_size he₃
 generalize h₃.push { cls:=.type "tuple",data:=.seq #[.int i tk,x] }=h₄ at he₄ ht₄ hk₄
 rw [hsz] at ht₄ hel ⊢
 show wpAny _ _ (Builtin.SmallTypes.ownedTupleIsFree (.ref e) >>= _) _ _ ⟨h₄,g,d,tk+1,os⟩
 refine wpAny_bind ?_
 unfold Builtin.SmallTypes.ownedTupleIsFree
 refine wpAny_bind (wpAny_field he₄ rfl (x:=.none) rfl (wpAny_pure ?_))
 simp only [if_true]
 refine wpAny_bind (wpAny_rule ?_)
 show wpAny _ _ (field (.ref e) 5 >>= _) _ _ _
 refine wpAny_bind (wpAny_field he₄ rfl (x:=old) rfl ?_)
 show wpAny _ _ (setField (.ref e) 5 x >>= _) _ _ ⟨h₄,g,d,tk+1,os⟩
 refine wpAny_bind (wpAny_setField_rec he₄ (by simp) fun h₅ he₅ hs₅=>?_)
 replace he₅:IsEnum h₅ e it ((i:Int)+1) x:=he₅
 replace hs₅:Heap.SameBut e h₄ h₅:=hs₅
 show wpAny _ _ (Builtin.SmallTypes.ownedTupleHandOut (.ref e) (.ref h₁.objs.size) >>= _) _ _ _
 refine wpAny_bind ?_
 unfold Builtin.SmallTypes.ownedTupleHandOut
 refine wpAny_bind (wpAny_setField_rec he₅ (by simp) fun h₆ he₆ hs₆=>?_)
 replace hs₆:Heap.SameBut e h₅ h₆:=hs₆
 replace he₆:IsEnumOut h₆ e it ((i:Int)+1) x h₁.objs.size:=he₆
 refine wpAny_setField_rec he₆ (by simp) fun h₇ he₇ hs₇=>?_
 replace hs₇:Heap.SameBut e h₆ h₇:=hs₇
 replace he₇:IsEnumOut h₇ e it ((i:Int)+1) x h₁.objs.size:=he₇
 refine wpAny_bind (wpAny_letGo (wpAny_pure ⟨_,rfl,?_⟩))
 have up:∀ b o,b≠e->h₄.get? b=some o->h₇.get? b=some o:=fun b o hb z=>hs₇.extBut b o hb (hs₆.extBut b o hb (hs₅.extBut b o hb z))
 exact hQ h₇ he₇ (up _ _ (Nat.ne_of_gt hel) ht₄) fun b o hb z=>up b o hb (hk₄ b o hb z)
end
abbrev Ut (h:Heap) (l1:Addr):Heap:=h.push { cls:=.type "tuple_iterator",data:=.fields #[.ref l1,.int 0 0] }
abbrev U0 (h:Heap) (l1 l2:Addr):Heap:=(Ut h l1).push { cls:=.type "tuple_iterator",data:=.fields #[.ref l2,.int 0 0] }
abbrev Tp (h:Heap) (l1 l2:Addr):Heap:=(U0 h l1 l2).push { cls:=.type "tuple",data:=.seq #[.ref h.objs.size,.ref (Ut h l1).objs.size] }
abbrev Ti (h:Heap) (l1 l2:Addr):Heap:=(Tp h l1 l2).push { cls:=.type "tuple",data:=.seq #[.none,.none] }
abbrev Le (h:Heap) (l1 l2:Addr):Heap:=(Ti h l1 l2).push { cls:=.type "zip",data:=.fields #[.none,.bool false,.bool false,.ref (U0 h l1 l2).objs.size,.ref (Tp h l1 l2).objs.size] }
theorem yQ (l1 l2:Addr) (xs ys:Array Value) :
 Meets (Builtin.«zip.__new__» ⟨[.type "zip",.ref l1,.ref l2],[]⟩) (fun _ R s=>s.heap.IsTuple l1 xs/\s.heap.IsTuple l2 ys/\
  R (.ok (.ret (.ref (Ti s.heap l1 l2).objs.size))) { s with heap:=Le s.heap l1 l2 }):=
 .of_wp fun prog w A R s h=>by
  obtain ⟨hp,g,d,tk,os⟩:=s;obtain ⟨hl1,hl2,h⟩:=h
  have hsub:=sub_zip
  have hL1:Heap.IsTuple (Shared.heap ⟨hp,g,d,tk,os⟩) l1 xs:=hl1
  have hL2:Heap.IsTuple (Shared.heap ⟨hp.push { cls:=.type "tuple_iterator",data:=.fields #[.ref l1,.int 0 0] },g,d,tk,os⟩) l2 ys:=let ⟨o,e,r⟩:=hl2;⟨o,Heap.get?_push_of_some _ e,r⟩
  wp_walk using wpAny_pyIter_tuple hL1,wpAny_pyIter_tuple hL2
  exact ⟨_,rfl,h⟩
theorem x_ (hl1:s.heap.IsTuple l1 xs) (hl2:s.heap.IsTuple l2 ys)
 (h:∀ h',fD h' (s.heap.objs.size+4) (s.heap.objs.size+2) (s.heap.objs.size+3) .none false->IsPair h' (s.heap.objs.size+2) (.ref s.heap.objs.size) (.ref (s.heap.objs.size+1))->
  IsPair h' (s.heap.objs.size+3) .none .none->h'.IsTupleIter s.heap.objs.size l1 0->h'.IsTupleIter (s.heap.objs.size+1) l2 0->h'.objs.size=s.heap.objs.size+5->
  (∀ c o,s.heap.get? c=some o->h'.get? c=some o)->Q (.ref (s.heap.objs.size+4)) { s with heap:=h' }) :
 wpAny (model prog w) A (call (.type "zip") [.ref l1,.ref l2]) Q E s:=by
 refine callType_new F.called_zip (by decide) (F.typeCall_zip_2 _ _) (F.newCall_zip_2 _ _) (fun obj=>F.args_object_init_3 obj _ _) F.entry_zip_new
  (yQ l1 l2 xs ys) ⟨hl1,hl2,?_⟩
 have z1:(Ut s.heap l1).objs.size=s.heap.objs.size+1:=Heap.size_push ..
 have z2:(U0 s.heap l1 l2).objs.size=s.heap.objs.size+2:=by rw [Heap.size_push,z1]
 have z3:(Tp s.heap l1 l2).objs.size=s.heap.objs.size+3:=by rw [Heap.size_push,z2]
 have z4:(Ti s.heap l1 l2).objs.size=s.heap.objs.size+4:=by rw [Heap.size_push,z3]
 have z5:(Le s.heap l1 l2).objs.size=s.heap.objs.size+5:=by rw [Heap.size_push,z4]
 have g5:(Le s.heap l1 l2).get? (Ti s.heap l1 l2).objs.size=some _:=Heap.get?_push_size _ rfl
 have g4:(Le s.heap l1 l2).get? (Tp s.heap l1 l2).objs.size=some _:=Heap.get?_push_of_some _ (Heap.get?_push_size _ rfl)
 have g3:(Le s.heap l1 l2).get? (U0 s.heap l1 l2).objs.size=some _:=Heap.get?_push_of_some _ (Heap.get?_push_of_some _ (Heap.get?_push_size _ rfl))
 have g2:(Le s.heap l1 l2).get? (Ut s.heap l1).objs.size=some _:=Heap.get?_push_of_some _ (Heap.get?_push_of_some _ (Heap.get?_push_of_some _ (Heap.get?_push_size _ rfl)))
 have g1:(Le s.heap l1 l2).get? s.heap.objs.size=some _:=Heap.get?_push_of_some _ (Heap.get?_push_of_some _ (Heap.get?_push_of_some _ (Heap.get?_push_of_some _ (Heap.get?_push_size _ rfl))))
 show _/\_
 rw [z2,z3,z4] at g5
 rw [z1,z2] at g3
 rw [z3] at g4
 rw [z1] at g2
 rw [z4]
 exact ⟨⟨_,g5,rfl⟩,h _ g5 g3 g4 ⟨_,g1,rfl,rfl⟩ ⟨_,g2,rfl,rfl⟩ z5 fun c o x=>
  Heap.get?_push_of_some _ (Heap.get?_push_of_some _ (Heap.get?_push_of_some _ (Heap.get?_push_of_some _ (Heap.get?_push_of_some _ x))))⟩
theorem oH {s:Shared} {z TI TO:Addr} {f0:Value} {b:Bool} {Q:Value->Shared->Prop} (hz:fD s.heap z TI TO f0 b) (h:Q (.ref z) s):wpAny (model prog w) A (pyIter (.ref z)) Q E s:=by
 have hT:s.TypeIs (.ref z) "zip":=⟨_,hz,rfl⟩
 refine wpAny_pyIter_slot hT F.slot_zip_iter (wpAny_call_entry F.slot_zip_iter hT F.entry_zip_iter ?_ (F.args_zip_iter_1 _))
 show wpAny _ _ (ret (.ref z)) _ _ s
 exact wpAny_pure ⟨_,rfl,"zip",_,hT,F.slot_zip_next.lookup,h⟩
theorem wR (z TI TO:Addr) :
 Meets (Builtin.«enumerate.__new__» ⟨[.type "enumerate",.ref z],[]⟩) (fun _ R s=>fD s.heap z TI TO .none false/\
  R (.ok (.ret (.ref s.heap.objs.size))) { s with heap:=s.heap.push { cls:=.type "enumerate",data:=.fields #[.none,.bool false,.ref z,rawInt 0,.none,.none] } }):=
 .of_wp fun prog w A R s h=>by
  obtain ⟨hp,g,d,tk,os⟩:=s
  obtain ⟨hl,h⟩:=h
  have hsub:=sub_enumerate
  have hL:fD (Shared.heap ⟨hp,g,d,tk,os⟩) z TI TO .none false:=hl
  wp_walk using AutoSeq1.wpAny_loadPart' hl
  refine wpAny_stack_any fun st=>wpAny_pure ?_
  split
  ·rename_i c _ _ _ _ _
   cases (c == Value.type "enumerate") <;> (wp_walk using AutoSeq1.wpAny_loadPart' hl,oH hL;exact ⟨_,rfl,h⟩)
  ·wp_walk using AutoSeq1.wpAny_loadPart' hl,oH hL
   exact ⟨_,rfl,h⟩
theorem uv {prog:Program} {w:World} {A:Around} {E:Value->Shared->Prop} {s:Shared} {z TI TO:Addr} {Q:Value->Shared->Prop} (hz:fD s.heap z TI TO .none false)
 (h:∀ g,IsEnum g s.heap.objs.size z 0 .none->(∀ b o,s.heap.get? b=some o->g.get? b=some o)->Q (.ref s.heap.objs.size) { s with heap:=g }):wpAny (model prog w) A (call (.type "enumerate") [.ref z]) Q E s:=by
 refine callType_new F.called_enumerate (by decide) (F.typeCall_enumerate_1 _) (F.newCall_enumerate_1 _) (fun obj=>F.args_object_init_2 obj _) F.entry_enumerate_new (wR z TI TO) ⟨hz,?_⟩
 have he:=Heap.get?_push_size s.heap (o:={ cls:=.type "enumerate",data:=.fields #[.none,.bool false,.ref z,rawInt 0,.none,.none] }) rfl
 exact ⟨⟨_,he,rfl⟩,h _ he fun b o x=>Heap.get?_push_of_some _ x⟩
def O8 (K:PySem.W.Frag) (a1 a2:Addr):It:=
 ⟨fun i H=>∃ xs ys x y,bI K H a1 xs/\bI K H a2 ys/\xs[i]?=some x/\ys[i]?=some y,
  fun i H v H'=>∃ q p x y,H q=none/\upd H q (.tup [x,y]) p=none/\v=.ref p/\(∀ xs,bI K H a1 xs->xs[i]?=some x)/\(∀ ys,bI K H a2 ys->ys[i]?=some y)/\H'=upd (upd H q (.tup [x,y])) p (.tup [.int i,.ref q]),
  fun i H=>∃ xs ys,bI K H a1 xs/\bI K H a2 ys/\(xs.length≤i∨ys.length≤i)⟩
structure DK (e z TI TO i1 i2:Addr):Prop where
 ez:e≠z
 eTI:e≠TI
 eTO:e≠TO
 e1:e≠i1
 e2:e≠i2
 TIz:TI≠z
 TOz:TO≠z
 i1z:i1≠z
 i2z:i2≠z
 TITO:TI≠TO
 TIi1:TI≠i1
 TIi2:TI≠i2
 TOi1:TO≠i1
 TOi2:TO≠i2
 i12:i1≠i2
abbrev EZ (e z TI TO i1 i2 a1 a2:Addr) (i:Nat) (h:Heap):Prop:=(∃ old,IsEnum h e z i old)/\ZS h z TI TO i1 i2 a1 a2 i i
theorem EZ.obj {e z TI TO i1 i2 a1 a2:Addr} {i:Nat} {h:Heap} (st:EZ e z TI TO i1 i2 a1 a2 i h):∀ b∈[e,z,TI,TO,i1,i2],∃ o,h.get? b=some o/\∀ v,o.data≠.cell v:=by
 obtain ⟨⟨old,he⟩,⟨f0,b0,hz,_⟩,hTI,⟨x,y,hTO⟩,⟨o1,e1,_,d1⟩,⟨o2,e2,_,d2⟩⟩:=st
 intro b hb
 simp only [List.mem_cons,List.not_mem_nil,or_false] at hb
 rcases hb with rfl|rfl|rfl|rfl|rfl|rfl
 ·exact ⟨_,he,fun v z=>by cases z⟩
 ·exact ⟨_,hz,fun v z=>by cases z⟩
 ·exact ⟨_,hTI,fun v z=>by cases z⟩
 ·exact ⟨_,hTO,fun v z=>by cases z⟩
 ·exact ⟨_,e1,fun v z=>by rw [d1] at z;cases z⟩
 ·exact ⟨_,e2,fun v z=>by rw [d2] at z;cases z⟩
theorem ZS.keep {z TI TO i1 i2 a1 a2:Addr} {i:Nat} {h h':Heap} (st:ZS h z TI TO i1 i2 a1 a2 i i) (k:∀ b∈[z,TI,TO,i1,i2],∀ o,h.get? b=some o->h'.get? b=some o):ZS h' z TI TO i1 i2 a1 a2 i i:=by
 obtain ⟨⟨f0,b0,hz,hf⟩,hTI,⟨x,y,hTO⟩,h1,h2⟩:=st
 exact ⟨⟨f0,b0,k _ (by simp) _ hz,hf⟩,k _ (by simp) _ hTI,⟨x,y,k _ (by simp) _ hTO⟩,h1.at fun o e=>k _ (by simp) _ e,h2.at fun o e=>k _ (by simp) _ e⟩
theorem ZS.obj {z TI TO i1 i2 a1 a2:Addr} {i j:Nat} {h:Heap} (st:ZS h z TI TO i1 i2 a1 a2 i j):∀ b∈[z,TO,i1,i2],∃ o,h.get? b=some o:=by
 obtain ⟨⟨f0,b0,hz,_⟩,hTI,⟨x,y,hTO⟩,⟨o1,e1,_,d1⟩,⟨o2,e2,_,d2⟩⟩:=st
 intro b hb
 simp only [List.mem_cons,List.not_mem_nil,or_false] at hb
 rcases hb with rfl|rfl|rfl|rfl
 ·exact ⟨_,hz⟩
 ·exact ⟨_,hTO⟩
 ·exact ⟨_,e1⟩
 ·exact ⟨_,e2⟩
theorem zE (I:Inv X Z σ H s) (hq:bI X.K H a zs) (hb:gZ X Z H b):a≠b:=by
 rintro rfl
 rcases hq with h|⟨o,its,n,hk,_⟩
 ·rcases h with h|⟨u,h⟩
  ·rw [hb.1] at h;cases h
  ·rw [hb.1] at h;cases h
 ·have e:=I.ok.mod.kin _ _ hk
  rcases hb.2.2.2.1 with z|z
  ·exact I.ok.noex _ _ e z
  ·exact absurd (Heap.lt_size (I.ok.bs _ _ e).1) (Nat.not_lt.mpr z)
theorem Inv.turnedN {X:Cx} {Z:List (Addr×Obj)} {σ:St} {H:Hp} {s:Shared} {h':Heap} {t':Nat} {fp:List Addr} (I:Inv X Z σ H s) (k:∀ b u,b∉fp->s.heap.get? b=some u->h'.get? b=some u) (hf:∀ b∈fp,gZ X Z H b):Inv X Z σ H { s with heap:=h',toks:=t' }:=by
 have off:∀ b u,H b=some u->b∉fp:=fun b u e z=>by rw [(hf b z).1] at e;cases e
 refine I.step (g':=s.gens) (d':=s.drawn) (ch:=fp) (fun b hb=>?_) (fun b u _ _ hc e _=>k b u hc e) (fun b u _ _ hc e _=>⟨u.slots,k b u hc e⟩) (fun _ _ _ _ n=>n) (fun b u hc e=>⟨u,k b u hc e⟩) (fun _ _ e=>e) (fun _ _ _ e=>e) (fun b ps e=>⟨#[],by rw [e];simp⟩) (fun m hm=>?_) (fun b u e=>?_) I.bare
 ·obtain ⟨_,f1,_,f3,f4,f5⟩:=hf b hb
  exact ⟨f3,f1,f4,f5⟩
 ·obtain ⟨u,es,ep,ho,r⟩:=hm
  exact ⟨u,es,ep,k _ u (fun z=>(hf _ z).2.1 rfl) ho,r⟩
 ·refine (I.hok b u e).stay (fun c v hc q=>k c v ?_ q) (fun c q=>q) fun c xs q=>q
  rcases hc with rfl|z
  ·exact off _ u e
  ·exact off c _ z
theorem gZ.upd (h:gZ X Z H b) (ne:b≠a):gZ X Z (upd H a o) b:=⟨by rw [aH ne];exact h.1,h.2⟩
theorem t_ {P:Program} {w:World} {K:PySem.W.Frag} {elts:List Expr} {k1} {pos:Pos} (a1 a2 e z TI TO i1 i2:Addr) (D:DK e z TI TO i1 i2) :
 Turn P w K (.Tuple elts k1 pos) (O8 K a1 a2) [e,z,TI,TO,i1,i2] e (EZ e z TI TO i1 i2 a1 a2) where
 mem:=by simp
 obj:=fun i h st b hb=>st.obj b hb
 keep:=fun i h h' st k=>⟨let ⟨old,h1⟩:=st.1;⟨old,k e (by simp) _ h1⟩,st.2.keep fun b hb o z=>k b (List.mem_cons_of_mem _ hb) o z⟩
 item:=by
  intro X hP hw hK hc i Z s σ H E I hf st hg
  subst hP hw hK
  obtain ⟨xs,ys,x,y,hq1,hq2,hx,hy⟩:=hg
  obtain ⟨its1,rv1,p1,_⟩:=I.tuple hq1
  obtain ⟨its2,rv2,p2,_⟩:=I.tuple hq2
  obtain ⟨u1,hu1,ru1⟩:=rv1.get hx
  obtain ⟨u2,hu2,ru2⟩:=rv2.get hy
  have t1:s.heap.IsTuple a1 its1.toArray:=p1
  have t2:s.heap.IsTuple a2 its2.toArray:=p2
  obtain ⟨⟨old,he⟩,S⟩:=st
  have free:∀ b∈[e,z,TI,TO,i1,i2],H b=none:=fun b hb=>(hf b hb).1
  have apart:∀ {a:Addr} {zs:List V},bI X.K H a zs->∀ b∈[e,z,TI,TO,i1,i2],a≠b:=fun hq b hb=>zE I hq (hf b hb)
  have ZA:ZipApart z TI TO i1 i2 a1 a2:=⟨D.TIz,D.TOz,D.i1z,D.i2z,D.TITO,D.TIi1,D.TIi2,D.TOi1,D.TOi2,D.i12,apart hq1 _ (by simp),apart hq1 _ (by simp),apart hq1 _ (by simp),apart hq1 _ (by simp),apart hq2 _ (by simp),apart hq2 _ (by simp),apart hq2 _ (by simp),apart hq2 _ (by simp)⟩
  have hT:s.TypeIs (.ref e) "enumerate":=⟨_,he,rfl⟩
  unfold pyNext
  refine wpAny_bind (wpAny_attempt (wpAny_callSpecial?_slot (name:=Str.ofString "__next__") hT F.slot_enumerate_next (wpAny_call_entry F.slot_enumerate_next hT F.entry_enumerate_next (xX he ?_) (F.args_enumerate_next_1 _))))
  refine tX ZA S t1 t2 (by simpa using hu1) (by simpa using hu2) fun h₁ S₁ hp₁ hz₁ hk₁=>?_
  have he₁:IsEnum h₁ e z i old:=hk₁ _ _ D.ez D.eTO D.e1 D.e2 he
  refine ⟨h₁,s.toks,rfl,he₁,fun h' ho ht hk'=>wpAny_pure ⟨_,rfl,?_⟩⟩
  have lt:∀ b∈[e,z,TI,TO,i1,i2],b<s.heap.objs.size:=fun b hb=>by
   obtain ⟨o,z',_⟩:=EZ.obj (⟨⟨old,he⟩,S⟩:EZ e z TI TO i1 i2 a1 a2 i s.heap) b hb
   exact Heap.lt_size z'
  have I1:Inv X Z σ (upd H s.heap.objs.size (.tup [x,y])) { s with heap:=h₁,toks:=s.toks }:=by
   refine I.turnLaid (fp:=[z,TO,i1,i2]) (fun b o hb q=>hk₁ b o (fun r=>hb (by simp [r])) (fun r=>hb (by simp [r])) (fun r=>hb (by simp [r])) (fun r=>hb (by simp [r])) q) (fun b hb=>?_) (fun b hb=>hf b ?_) (Nat.le_refl _) ?_
   ·exact S₁.obj b hb
   ·simp at hb ⊢
    rcases hb with h|h|h|h <;> simp [h]
   ·exact ⟨by show 2≤sizeLine;decide,[u1,u2],.cons ru1 (.cons ru2 .nil),⟨_,hp₁,rfl,_,rfl⟩⟩
  have hno1:∀ b∈[e,z,TI,TO,i1,i2],(upd H s.heap.objs.size (.tup [x,y])) b=none:=fun b hb=>by rw [aH (Nat.ne_of_lt (lt b hb))];exact free b hb
  have hpn:(upd H s.heap.objs.size (.tup [x,y])) h₁.objs.size=none:=I1.hok.fresh (Nat.le_refl _)
  have I2:Inv X Z σ (upd (upd H s.heap.objs.size (.tup [x,y])) h₁.objs.size (.tup [.int i,.ref s.heap.objs.size])) { s with heap:=h',toks:=s.toks+1 }:=by
   refine Inv.turnLaid (s:={ s with heap:=h₁,toks:=s.toks }) (fp:=[e]) I1 (fun b o hb q=>hk' b o (fun r=>hb (by simp [r])) q) (fun b hb=>?_) (fun b hb=>?_) (Nat.le_refl _) ?_
   ·cases List.mem_singleton.mp hb
    exact ⟨_,ho⟩
   ·cases List.mem_singleton.mp hb
    exact (hf e (by simp)).upd (Nat.ne_of_lt (lt e (by simp)))
   ·exact ⟨by show 2≤sizeLine;decide,[.int i s.toks,.ref s.heap.objs.size],.cons ⟨_,rfl⟩ (.cons rfl .nil),⟨_,ht,rfl,_,rfl⟩⟩
  have hno2:∀ b∈[e,z,TI,TO,i1,i2],(upd (upd H s.heap.objs.size (.tup [x,y])) h₁.objs.size (.tup [.int i,.ref s.heap.objs.size])) b=none:=fun b hb=>by
   rw [aH (Nat.ne_of_lt (Nat.lt_of_lt_of_le (lt b hb) (by rw [hz₁];exact Nat.le_succ _)))]
   exact hno1 b hb
  refine wpAny_letOwnedTupleGo_enum ho fun g2 he2 hs2=>?_
  obtain ⟨f0,f1,f2,f3,f4,f5⟩:=hf e (by simp)
  refine ⟨.ref h₁.objs.size,_,I2.turned (t':=s.toks+1) (fun b o hb q=>(hs2.2 b hb).trans q) (hno2 e (by simp)) f1 f3 f4 f5,rfl,⟨s.heap.objs.size,h₁.objs.size,x,y,I.hok.fresh (Nat.le_refl _),hpn,rfl,fun zs hz=>by rw [I.tuple_inj hz hq1];exact hx,fun zs hz=>by rw [I.tuple_inj hz hq2];exact hy,rfl⟩,⟨⟨_,by simpa using he2⟩,?_⟩,hno2⟩
  refine S₁.keep fun b hb o q=>?_
  have be:b≠e:=by
   simp only [List.mem_cons,List.not_mem_nil,or_false] at hb
   rcases hb with rfl|rfl|rfl|rfl|rfl
   ·exact D.ez.symm
   ·exact D.eTI.symm
   ·exact D.eTO.symm
   ·exact D.e1.symm
   ·exact D.e2.symm
  exact (hs2.2 b be).trans (hk' b o be q)
 done:=by
  intro X hP hw hK hc i Z s σ H E I hf st hg
  subst hP hw hK
  obtain ⟨xs,ys,hq1,hq2,hend⟩:=hg
  obtain ⟨its1,rv1,p1,_⟩:=I.tuple hq1
  obtain ⟨its2,rv2,p2,_⟩:=I.tuple hq2
  have t1:s.heap.IsTuple a1 its1.toArray:=p1
  have t2:s.heap.IsTuple a2 its2.toArray:=p2
  obtain ⟨⟨old,he⟩,S⟩:=st
  have l1:=rv1.length
  have l2:=rv2.length
  have apart:∀ {a:Addr} {zs:List V},bI X.K H a zs->∀ b∈[e,z,TI,TO,i1,i2],a≠b:=fun hq b hb=>zE I hq (hf b hb)
  have ZA:ZipApart z TI TO i1 i2 a1 a2:=⟨D.TIz,D.TOz,D.i1z,D.i2z,D.TITO,D.TIi1,D.TIi2,D.TOi1,D.TOi2,D.i12,apart hq1 _ (by simp),apart hq1 _ (by simp),apart hq1 _ (by simp),apart hq1 _ (by simp),apart hq2 _ (by simp),apart hq2 _ (by simp),apart hq2 _ (by simp),apart hq2 _ (by simp)⟩
  have hT:s.TypeIs (.ref e) "enumerate":=⟨_,he,rfl⟩
  unfold pyNext
  refine wpAny_bind (wpAny_attempt (wpAny_callSpecial?_slot (name:=Str.ofString "__next__") hT F.slot_enumerate_next (wpAny_call_entry F.slot_enumerate_next hT F.entry_enumerate_next ?_ (F.args_enumerate_next_1 _))))
  show wpAny _ _ (field (.ref e) 2 >>= _) _ _ _
  refine wpAny_bind (wpAny_field he rfl (x:=.ref z) rfl (wpAny_bind (xM (A:=X.A.in1) (I.ok.hd hc) ZA S t1 t2 (by simp;omega) fun g x' hk hx'=>?_)))
  obtain ⟨o,ho,hcl⟩:=hx'
  refine wpAny_bind (wpAny_isInstance (T:="StopIteration") (b:=true) ⟨o,ho,hcl⟩ isSubtype_stop (wpAny_pure ⟨rfl,?_⟩))
  exact I.turnedN (fp:=[z,TO,i1,i2]) (fun b o hb q=>hk b o (fun r=>hb (by simp [r])) (fun r=>hb (by simp [r])) (fun r=>hb (by simp [r])) (fun r=>hb (by simp [r])) q) (fun b hb=>hf b (by simp at hb ⊢;rcases hb with h|h|h|h <;> simp [h]))
 self:=fun _ _ _ _ _ st h=>let ⟨_,he⟩:=st.1;wpAny_pyIter_enum he h
def Kp (K:PySem.W.Frag) (ta:TA):TI:=fun σ H R=>ta σ H fun vs H1=>∃ a1 a2,vs=[.ref a1,.ref a2]/\(∃ xs,bI K H1 a1 xs)/\(∃ ys,bI K H1 a2 ys)/\R (O8 K a1 a2) H1
theorem Jk:bootBuiltins "zip" = some (.type "zip"):=by ext
theorem zx {k1} (hg:Gl X "enumerate") (hm:X.mg "enumerate" = none) (hg2:Gl X "zip") (hm2:X.mg "zip" = none) (ha:PA X [a,b] ta)
 (hs:starEach [a,b] X.env=(false,eval a X.env)::starEach [b] X.env:=by rfl) (hs1:(backTo pos2 (starEach [b] X.env)).any (·.1)=false:=by rfl)
 (hs2:starEach [.Call (.Name "zip" p2) [a,b] [] pos2] X.env=(false,eval (.Call (.Name "zip" p2) [a,b] [] pos2) X.env)::starEach [] X.env:=by rfl) (hs3:(backTo pos (starEach [] X.env)).any (·.1)=false:=by rfl) :
 PI X (.Tuple elts k1 pt) (.Call (.Name "enumerate" p) [.Call (.Name "zip" p2) [a,b] [] pos2] [] pos) (Kp X.K ta):=by
 intro Z s σ H R I h
 refine Call_ (eU I hg hm gh (PyProof.Rows.callWith_type1 ?_ hs2 hs3))
 rw [hs2]
 show wpAny _ _ (spliced ((false,eval (.Call (.Name "zip" p2) [a,b] [] pos2) X.env)::backTo pos (starEach [] X.env))) _ _ s
 refine Calls.spliced_cons ?_
 refine wpAny_Call_Name_kw (eU I hg2 hm2 Jk (PyProof.Rows.callWith_type1 (cz (ha pos2 Z s σ H _ I h) fun us s1 ⟨vs,H1,I1,r1,q1⟩=>?_) hs hs1) (by decide) (by decide))
 obtain ⟨a1,a2,rfl,⟨xs,hq1⟩,⟨ys,hq2⟩,q⟩:=q1
 obtain ⟨u1,u2,rfl,e1,e2⟩:=vals2 r1
 cases (show u1=Value.ref a1 from e1)
 cases (show u2=Value.ref a2 from e2)
 obtain ⟨its1,rv1,p1,_⟩:=I1.tuple hq1
 obtain ⟨its2,rv2,p2',_⟩:=I1.tuple hq2
 refine x_ (show s1.heap.IsTuple a1 its1.toArray from p1) (show s1.heap.IsTuple a2 its2.toArray from p2') fun h₁ hz hTI hTO h1 h2 hsz hk=>?_
 refine Calls.spliced_nil ?_
 refine uv (s:={ s1 with heap:=h₁ }) hz fun g he hk2=>wpAny_pyIter_enum he ?_
 have hk3:∀ b o,s1.heap.get? b=some o->g.get? b=some o:=fun b o e=>hk2 _ _ (hk _ _ e)
 have eh:({ s1 with heap:=h₁ }:Shared).heap.objs.size=s1.heap.objs.size+5:=hsz
 refine ⟨s1.heap.objs.size+5,[s1.heap.objs.size+5,s1.heap.objs.size+4,s1.heap.objs.size+2,s1.heap.objs.size+3,s1.heap.objs.size,s1.heap.objs.size+1],_,_,H1,?_,I1.kept (t':=s1.toks) hk3,t_ a1 a2 _ _ _ _ _ _ ?_,⟨⟨.none,?_⟩,⟨⟨_,_,hk2 _ _ hz,.inl rfl⟩,hk2 _ _ hTI,⟨_,_,hk2 _ _ hTO⟩,h1.at fun o e=>hk2 _ _ e,h2.at fun o e=>hk2 _ _ e⟩⟩,fun b hb=>?_,q⟩
 ·rw [hsz]
 ·constructor <;> (intro z;have z':(_:Nat)=_:=z;omega)
 ·rw [← hsz];exact he
 ·have hb':s1.heap.objs.size≤b:=by
   simp only [List.mem_cons,List.not_mem_nil,or_false] at hb
   rcases hb with rfl|rfl|rfl|rfl|rfl|rfl
   ·exact Nat.le_add_right _ 5
   ·exact Nat.le_add_right _ 4
   ·exact Nat.le_add_right _ 2
   ·exact Nat.le_add_right _ 3
   ·exact Nat.le_refl _
   ·exact Nat.le_add_right _ 1
  exact I1.fpOk hb' (I1.hok.fresh hb')
theorem xu {K:PySem.W.Frag} {a1 a2:Addr} {xs ys:List V} {g:TG} {tb:TS} {D:Ends} {σ:St} {H:Hp} (Pv:Nat->St->Hp->Prop) (h0:Pv 0 σ H) (hl:∀ i σ H,i≤min xs.length ys.length->Pv i σ H->bI K H a1 xs/\bI K H a2 ys)
 (hs:∀ i x y σ H q p,xs[i]?=some x->ys[i]?=some y->Pv i σ H->H q=none->upd H q (.tup [x,y]) p=none->g (.ref p) σ (upd (upd H q (.tup [x,y])) p (.tup [.int i,.ref q])) fun σ2 H2=>tb { D with nx:=Pv (i+1),ct:=Pv (i+1),bk:=D.nx } σ2 H2)
 (hd:∀ σ H,Pv (min xs.length ys.length) σ H->D.nx σ H) :
 ∃ W:Nat->Nat->St->Hp->Prop,(∃ m,W 0 m σ H)/\∀ i m σ H,W i m σ H->((O8 K a1 a2).stop i H/\D.nx σ H)∨((O8 K a1 a2).go i H/\∃ N:St->Hp->Prop,(∀ σ' H',N σ' H'->∃ m',m'<m/\W (i+1) m' σ' H')/\∀ x H',(O8 K a1 a2).yld i H x H'->g x σ H' fun σ2 H2=>tb { D with nx:=N,ct:=N,bk:=D.nx } σ2 H2):=by
 refine ⟨fun i m σ H=>m=min xs.length ys.length-i/\i≤min xs.length ys.length/\Pv i σ H,⟨min xs.length ys.length,by simp,Nat.zero_le _,h0⟩,?_⟩
 rintro i m σ H ⟨rfl,hi,p⟩
 obtain ⟨q1,q2⟩:=hl i σ H hi p
 by_cases hlt:i<min xs.length ys.length
 ·have l1:i<xs.length:=by omega
  have l2:i<ys.length:=by omega
  refine .inr ⟨⟨xs,ys,xs[i],ys[i],q1,q2,by simp [l1],by simp [l2]⟩,Pv (i+1),fun σ' H' z=>⟨min xs.length ys.length-(i+1),by omega,rfl,hlt,z⟩,?_⟩
  rintro x H' ⟨q,p',y1,y2,hn,hn2,rfl,hy1,hy2,rfl⟩
  exact hs i y1 y2 σ H q p' (hy1 xs q1) (hy2 ys q2) p hn hn2
 ·have e:i=min xs.length ys.length:=by omega
  subst e
  exact .inl ⟨⟨xs,ys,q1,q2,by omega⟩,hd σ H p⟩
end L2
namespace L2
open PySem PySem.Spec PyProof.Rows PySem.W PyProof.V
def pW (K:Frag) (a:Addr) (D:List (Str×PyData)):Prop:=KTD.tabLook KTD.flatLooks (fun b=>K.lookup b) a D=true
def Ss:PyData->V
 |.int i=>.int i
 |.str x=>.str x
 |.bool b=>.bl b
 |_=>.non
def iy (D:List (Str×PyData)) (k:Str):Option V:=(KTD.datumAt k D).map Ss
theorem uW {h:Heap}:∀ {d:PyData} {v:Value},Flat v d->RelV (Ss d) v:=by
 intro d v x
 cases x ⟨#[],h.life⟩
 all_goals first|exact ⟨_,rfl⟩|rfl|exact absurd (Heap.lt_size (by assumption)) (Nat.not_lt_zero _)
def Ro (D:List (Str×PyData)):List (Str×KTD.Dat):=D.map fun p=>(p.1,KTD.Dat.flat p.2)
theorem gj:∀ {D:List (Str×PyData)},KTD.datumAt k (Ro D)=(KTD.datumAt k D).map KTD.Dat.flat
 |[]=>rfl
 | (x,d)::D=>by
   show (if _ then _ else KTD.datumAt k (Ro D))=_
   rw [gj (D:=D)]
   show _=(if _ then _ else KTD.datumAt k D).map _
   split <;> rfl
theorem mD:KTD.inKeys k (Ro D)=(iy D k).isSome:=by
 rw [← KTD.isSome_datumAt,gj]
 unfold iy
 cases KTD.datumAt k D <;> rfl
theorem pW.here (T:pW X.K a D) (I:Inv X Z σ H s):KTD.Here s.heap s.heap a (Ro D):=⟨KTD.TabOf.text (KTD.tab_of_look (fun _ _ h=>KTD.flat_of_looks h) (fun b o e=>I.kIn b o e) T),fun _ _ h=>h⟩
def yK (K:Frag) (neg:Bool):R2:=fun x y H Q=>∃ k a D,x=.str k/\y=.ref a/\pW K a D/\Q (.bl (if neg then !(iy D k).isSome else (iy D k).isSome)) H
theorem ir:iT X (compareOp .In) (yK X.K false):=by
 intro Z s σ H x y v u Q I rx ry h
 obtain ⟨k,a,D,rfl,rfl,T,q⟩:=h
 obtain ⟨t,rfl⟩:=rx
 cases (show u=Value.ref a from ry)
 refine KTD.in_text (T.here I) ⟨.bl _,H,I.tok _,rfl,?_⟩
 rw [mD]
 exact q
theorem sO:iT X (compareOp .NotIn) (yK X.K true):=by
 intro Z s σ H x y v u Q I rx ry h
 obtain ⟨k,a,D,rfl,rfl,T,q⟩:=h
 obtain ⟨t,rfl⟩:=rx
 cases (show u=Value.ref a from ry)
 refine KTD.notin_text (T.here I) ⟨.bl _,H,I.tok _,rfl,?_⟩
 rw [mD]
 exact q
def K8 (K:Frag):R2:=fun x y H Q=>∃ a k D v,x=.ref a/\y=.str k/\pW K a D/\iy D k=some v/\Q v H
theorem uf:Bp X (K8 X.K):=by
 intro value slice Z s σ H x y v u Q I rx ry h hs
 obtain ⟨a,k,D,z,rfl,rfl,T,e,q⟩:=h
 cases (show v=Value.ref a from rx)
 obtain ⟨t,rfl⟩:=ry
 have Th:=T.here I
 refine tail_any Th.typeIs slot_dict_getitem.lookup ?_ hs
 unfold getItem
 try with_reducible refine wpAny_holding ?_
 refine wpAny_bind (wpAny_sequenceKey Th.typeIs (by decide) ?_)
 refine wpAny_bind (wpAny_callSpecial?_slot (name:=Str.ofString "__getitem__") Th.typeIs slot_dict_getitem
  (wpAny_call_entry slot_dict_getitem Th.typeIs entry_dict_getitem ?_ (args_dict_getitem _ _)))
 show wpAny _ _ (dictGet a (.str k t) >>= _) _ _ s
 unfold iy at e
 refine wpAny_bind (KTD.dictGet_text Th (fun d v ha hv=>wpAny_pure ⟨v,rfl,wpAny_pure ?_⟩) fun hn=>?_)
 ·rw [gj] at ha
  cases hd:KTD.datumAt k D with
  |none=>rw [hd] at ha;cases ha
  | some d'=>
    rw [hd] at ha e
    cases ha
    cases e
    exact ⟨_,H,I.tok _,uW (h:=s.heap) hv,q⟩
 ·rw [gj] at hn
  cases hd:KTD.datumAt k D with
  |none=>rw [hd] at e;cases e
  |some d'=>rw [hd] at hn;cases hn
def Ca (K:Frag) (td ty:TE):TE:=fun σ H Q=>td σ H fun x H1=>∃ a D,x=.ref a/\pW K a D/\ty σ H1 fun y H2=>∃ k,y=.str k/\Q ((iy D k).getD .non) H2
theorem wG (ho:PE X o td) (he:PE X e ty) (m:M1 X o "get" apos e cpos):PE X (.Call (.Attribute o "get" apos) [e] [] cpos) (Ca X.K td ty):=by
 intro Z s σ H Q I h
 refine wpAny_Call_method m.base m.few m.line PySem.F.plainAttrs_dict PySem.F.slot_dict_get PySem.F.type_dict_get (cz (ho Z s σ H _ I h) fun u s1 ⟨x,H1,I1,rx,a,D,ex,T,q1⟩=>?_)
 subst ex
 obtain rfl:u=Value.ref a:=rx
 refine ⟨(T.here I1).typeIs,(T.here I1).noDict,?_⟩
 rw [m.trees]
 refine Calls.callWith_builtin rfl (Calls.evalArgs_plain (Calls.spliced_cons (cz (he Z s1 σ H1 _ I1 q1) fun iv s2 ⟨y,H2,I2,ry,k,ey,q2⟩=>Calls.spliced_nil ?_)))
 subst ey
 obtain ⟨t,rfl⟩:=ry
 refine call_meetsIn PySem.F.slot_dict_get (T.here I2).typeIs PySem.F.entry_dict_get (PySem.F.args_dict_get_2 _ _) (KTD.meets_get1 (h₀:=s2.heap) (D:=Ro D)) ⟨T.here I2,fun d v ha hv=>?_,fun hn=>?_⟩
 ·rw [gj] at ha
  unfold iy at q2
  cases hd:KTD.datumAt k D with
  |none=>rw [hd] at ha;cases ha
  | some d'=>
    rw [hd] at ha q2
    cases ha
    exact ⟨_,H2,I2.tok _,uW (h:=s.heap) hv,q2⟩
 ·rw [gj] at hn
  unfold iy at q2
  cases hd:KTD.datumAt k D with
  |some d'=>rw [hd] at hn;cases hn
  | none=>
    rw [hd] at q2
    exact ⟨.non,H2,I2.tok _,rfl,q2⟩
end L2
namespace L2
open PySem PySem.Spec PyProof.Rows PySem.SeqAt PySem.Builtin PySem.Builtin.Str
def sub (x:Str) (a b:Nat):Str:=⟨((x.cps.toList.drop a).take (b-a)).toArray⟩
theorem za (a b len:Nat):strSliceIndices (some (a:Int)) (some (b:Int)) 1 len=strSliceIndices (some ((min a len:Nat):Int)) (some ((min b len:Nat):Int)) 1 len:=by
 have h1:¬ ((a:Int)<0):=by omega
 have h2:¬ ((b:Int)<0):=by omega
 have h3:¬ (((min a len:Nat):Int)<0):=by omega
 have h4:¬ (((min b len:Nat):Int)<0):=by omega
 have e1:max (0:Int) (min (a:Int) (len:Int))=max (0:Int) (min ((min a len:Nat):Int) (len:Int)):=by omega
 have e2:max (0:Int) (min (b:Int) (len:Int))=max (0:Int) (min ((min b len:Nat):Int) (len:Int)):=by omega
 simp only [strSliceIndices,h1,h2,h3,h4,if_false,show ((1:Int) > 0)=True from by simp,if_true]
 rw [e1,e2]
theorem Bj {a b len:Nat} (h:b<a) (ha:a≤len):strSliceIndices (some (a:Int)) (some (b:Int)) 1 len=[]:=by
 have h1:¬ ((a:Int)<0):=by omega
 have h2:¬ ((b:Int)<0):=by omega
 have e1:max (0:Int) (min (a:Int) (len:Int))=a:=by omega
 have e2:max (0:Int) (min (b:Int) (len:Int))=b:=by omega
 simp only [strSliceIndices,sliceRange,h1,h2,if_false,e1,e2,show ((1:Int) > 0)=True from by simp,if_true]
 rw [if_neg (by omega)]
 rfl
theorem Ax (x:Str) (a b:Nat):(strSliceIndices (some (a:Int)) (some (b:Int)) 1 x.length).filterMap (x.cps[·]?)=(x.cps.toList.drop a).take (b-a)/\(strSliceIndices (some (a:Int)) (some (b:Int)) 1 x.length).length=((x.cps.toList.drop a).take (b-a)).length:=by
 have lx:x.cps.toList.length=x.length:=by simp [Str.length]
 rw [za]
 by_cases h:min a x.length≤min b x.length
 ·rw [StrLaws.sliced_plain x h (Nat.min_le_right _ _),StrLaws.strSliceIndices_plain h (Nat.min_le_right _ _),List.length_map,List.length_range,List.length_take,List.length_drop,lx]
  refine ⟨?_,by omega⟩
  by_cases ha:a≤x.length
  ·rw [Nat.min_eq_left ha]
   by_cases hb:b≤x.length
   ·rw [Nat.min_eq_left hb]
   ·rw [Nat.min_eq_right (by omega),List.take_of_length_le (by rw [List.length_drop];omega),List.take_of_length_le (by rw [List.length_drop];omega)]
  ·rw [Nat.min_eq_right (by omega),List.drop_of_length_le (by omega),List.drop_of_length_le (by omega),List.take_nil,List.take_nil]
 ·rw [Bj (by omega) (Nat.min_le_right _ _)]
  have:b-a=0:=by omega
  rw [this,List.take_zero]
  exact ⟨rfl,rfl⟩
theorem ym (x:Str) (a b:Nat):Txt.slice x (some (a:Int)) (some (b:Int))=sub x a b:=by
 obtain ⟨h1,h2⟩:=Ax x a b
 have lx:x.cps.toList.length=x.length:=by simp [Str.length]
 unfold Txt.slice sub
 split
 ·rename_i h
  have h:(strSliceIndices (some (a:Int)) (some (b:Int)) 1 x.length).length=x.length:=by simpa using h
  have e:(x.cps.toList.drop a).take (b-a)=x.cps.toList:=by
   refine List.Sublist.eq_of_length ((List.take_sublist _ _).trans (List.drop_sublist _ _)) ?_
   rw [← h2,h,lx]
  rw [e]
 ·rw [h1]
def Vk:V->Option Int->Option Int->Hp->VK->Prop:=fun x lo hi H Q=>∃ (z:Str) (a b:Nat),x=.str z/\lo=some ((a:Nat):Int)/\hi=some ((b:Nat):Int)/\z.length≤sizeLine/\Q (.str (sub z a b)) H
theorem iB:Nt X Vk:=by
 intro Z s σ H x v vl vu lo hi sl Q I rx hs pl pu h
 obtain ⟨z,a,b,rfl,rfl,rfl,hz,q⟩:=h
 obtain ⟨t,rfl⟩:=rx
 cases pl
 cases pu
 rename_i ua ub
 rw [← ym] at q
 refine ⟨"str",_,F.slot_str_getitem.lookup,typeIs_str _ _ _,wpAny_getItem_str_slice (l:=some (a,ua)) (u:=some (b,ub)) (st:=none) ?_ rfl (post_val_or_str ⟨Nat.le_trans (Txt.slice_le z (some a) (some b)) hz,fun t' k=>⟨.str _,H,I.tok _,⟨_,rfl⟩,q⟩⟩)⟩
 exact hs
end L2
namespace L2
open PySem PySem.Spec PyProof.Rows PySem.SeqAt
theorem xr:gF X (.type "int") (fun xs H Q=>∃ x n,xs=[.str x]/\PySem.intText? x=some n/\x.length≤640/\Q (.int n) H):=by
 intro Z s σ H xs us Q I r h
 obtain ⟨x,n,rfl,e,l,q⟩:=h
 obtain ⟨u,rfl,ru⟩:=vals1 r
 obtain ⟨t,rfl⟩:=ru
 exact PySem.W.KIN.call_text e l ⟨.int n,H,I.tok _,⟨_,rfl⟩,q⟩
open PySem.NumText in
theorem nj (m:Nat):AllDigits ((Nat.toDigits 10 m).map Char.toNat)/\(Nat.toDigits 10 m).map Char.toNat≠[]:=by
 refine ⟨fun c hc=>?_,fun e=>?_⟩
 ·obtain ⟨ch,hch,e⟩:=List.mem_map.mp hc
  have r:=digit_range (Nat.isDigit_of_mem_toDigits (by decide) (by decide) hch)
  rw [← e]
  exact r
 ·have h:=toDigits_len_ge 10 m
  rw [List.map_eq_nil_iff.mp e] at h
  exact absurd h (by decide)
open PySem.NumText in
theorem xn (m:Nat):(PySem.Str.ofString (toString (Int.negSucc m))).cps.toList=45::(Nat.toDigits 10 (m+1)).map Char.toNat:=by
 rw [signs_ofString]
 show (("-"++Nat.repr (m+1):String)).toList.map Char.toNat=_
 rw [String.toList_append,Nat.toList_repr]
 rfl
theorem p7 (i:Int):∃ ds:List Nat,(∀ c∈ds,48≤c/\c≤57)/\ds≠[]/\ds=(PySem.Str.ofString (toString ((i.natAbs:Nat):Int))).cps.toList/\((PySem.Str.ofString (toString i)).cps.toList=ds∨(PySem.Str.ofString (toString i)).cps.toList=45::ds)/\((PySem.Str.ofString (toString i)).length≤4300->PySem.intText? (PySem.Str.ofString (toString i))=some i):=by
 cases i with
 | ofNat m=>
   obtain ⟨h1,h2⟩:=nj m
   have e:=PySem.W.KIN.signs_num m
   refine ⟨_,h1,h2,e.symm,.inl e,fun hl=>?_⟩
   have:=PySem.intText_digits (x:=PySem.Str.ofString (toString (Int.ofNat m))) (by rw [show (Int.ofNat m)=((m:Nat):Int) from rfl,e];exact h1) (by rw [show (Int.ofNat m)=((m:Nat):Int) from rfl,e];exact h2) hl
   rw [this,show (Int.ofNat m)=((m:Nat):Int) from rfl,e,PySem.W.KIN.val_back]
 | negSucc m=>
   obtain ⟨h1,h2⟩:=nj (m+1)
   have e:=xn m
   refine ⟨_,h1,h2,(PySem.W.KIN.signs_num (m+1)).symm,.inr e,fun hl=>?_⟩
   have:=PySem.intText_neg e h1 h2 hl
   rw [this,PySem.W.KIN.val_back]
   rfl
end L2
namespace L2
open PySem PySem.Spec PyProof.Rows PySem.SeqAt PySem.Builtin PySem.Builtin.Str
end L2
namespace L2
open PySem PySem.Spec PyProof.Rows PySem.SeqAt
theorem rF {K:PySem.W.Frag} {H:Hp} {w:Value}:∀ {xs:List V} {ds:List PyData} {its:List Value},bF K H xs ds->Vals xs its->w∈its->∃ x d,d∈ds/\Rep K H x d/\RelV x w
 | _,_,_,.cons h t,.cons r rs,m=>by
   rcases List.mem_cons.mp m with rfl|m
   ·exact ⟨_,_,List.mem_cons_self,h,r⟩
   ·obtain ⟨x,e,h1,h2,h3⟩:=rF t rs m
    exact ⟨x,e,List.mem_cons_of_mem _ h1,h2,h3⟩
 |_,_,_,.nil,.nil,m=>by simp at m
theorem HN (hh:A.handled=none) (it l:Addr) (hne:l≠it) (items:Array Value) (i0:Nat) (h0:items.size≤i0):Draws prog w A it [it,l] 0 (fun i v=>False) (fun i h=>h.IsListIter it l i0/\h.IsList l items) where
 live:=fun _ _ st=>let ⟨o,ho,_⟩:=st.1;⟨o,ho⟩
 frame:=fun _ _ _ st hk=>⟨st.1.at fun o e=>hk it (by simp) o e,st.2.at fun o e=>hk l (by simp) o e⟩
 item:=fun i s Q E hi=>absurd hi (Nat.not_lt_zero _)
 done:=fun s Q E st hE=>wpAny_nextOf_list_end hh st.1 st.2 (by simp [h0]) hE
def wK (K:PySem.W.Frag) (a:Addr):It:=
 ⟨fun i H=>∃ xs x,bD K H a xs/\xs[i]?=some x,fun i H v H'=>∃ p x,H p=none/\v=.ref p/\(∀ xs,bD K H a xs->xs[i]?=some x)/\H'=upd H p (.tup [.int i,x]),fun i H=>∃ xs,bD K H a xs/\xs.length≤i⟩
theorem tU {P:Program} {w:World} {K:PySem.W.Frag} {elts:List Expr} {k1} {pos:Pos} (a e it:Addr) (hei:e≠it):Turn P w K (.Tuple elts k1 pos) (wK K a) [e,it] e (fun i h=>(∃ old,IsEnum h e it i old)/\h.IsListIter it a i) where
 mem:=by simp
 obj:=fun i h st b hb=>by
  obtain ⟨⟨old,h1⟩,o,h2,_,h3⟩:=st
  rcases List.mem_cons.mp hb with rfl|hb
  ·exact ⟨_,h1,fun v z=>by cases (show Data.fields _=Data.cell v from z)⟩
  ·cases List.mem_singleton.mp hb
   exact ⟨o,h2,fun v z=>by rw [h3] at z;cases z⟩
 keep:=fun i h h' st k=>⟨let ⟨old,h1⟩:=st.1;⟨old,k e (by simp) _ h1⟩,st.2.at fun o z=>k it (by simp) o z⟩
 item:=by
  intro X hP hw hK hc i Z s σ H E I hf st hg
  subst hP hw hK
  obtain ⟨xs,x,hq,hx⟩:=hg
  obtain ⟨its,rv,p,hz⟩:=I.list hq
  obtain ⟨u,hu,ru⟩:=rv.get hx
  obtain ⟨⟨old,he⟩,ht⟩:=st
  have hit:s.heap.IsList a its.toArray:=p.isList
  have han:a≠it:=by
   rintro rfl
   obtain ⟨o1,h1,h2,_⟩:=id hit
   obtain ⟨o2,h3,h4,_⟩:=id ht
   rw [h1] at h3;cases h3
   rw [h2] at h4;exact absurd (Value.type.inj h4) (by decide)
  have hae:a≠e:=by
   rintro rfl
   obtain ⟨o1,h1,h2,_⟩:=id hit
   rw [he] at h1;cases h1
   exact absurd (Value.type.inj h2) (by decide)
  have D:=Draws.list (prog:=X.prog) (w:=X.w) (A:=X.A.in1) (I.ok.hd hc) it a han its.toArray
  have hlt:i<its.toArray.size:=by
   have:=(List.getElem?_eq_some_iff.mp hx).1
   have hl:=rv.length
   rw [List.size_toArray];omega
  refine wpAny_pyNext_enum_itemD D he ⟨ht,hit⟩ hlt hei (by simp [hei,Ne.symm hae]) fun y g tk hy ho hst' htup hsz hk=>?_
  have e1:y=u:=by
   have:its.toArray[i]?=some u:=by simpa using hu
   rw [this] at hy;exact (Option.some.inj hy).symm
  subst e1
  refine ⟨_,rfl,?_⟩
  have helt:e<s.heap.objs.size:=Heap.lt_size he
  have hilt:it<s.heap.objs.size:=let ⟨o,z,_⟩:=ht;Heap.lt_size z
  have I1:Inv X Z σ (upd H s.heap.objs.size (.tup [.int i,x])) { s with heap:=g,toks:=tk+1 }:=by
   refine I.turnLaid (fp:=[e,it]) (fun b o hb z=>hk b o (fun q=>hb (by simp [q])) (fun q=>hb (by simp [q])) z) (fun b hb=>?_) hf (Nat.le_refl _) ?_
   ·rcases List.mem_cons.mp hb with rfl|hb
    ·exact ⟨_,ho⟩
    ·cases List.mem_singleton.mp hb
     exact let ⟨o,z,_⟩:=hst'.1;⟨o,z⟩
   ·exact ⟨by show 2≤sizeLine;decide,[.int i tk,y],.cons ⟨_,rfl⟩ (.cons ru .nil),⟨_,htup,rfl,_,rfl⟩⟩
  have hno:∀ b∈[e,it],(upd H s.heap.objs.size (.tup [.int i,x])) b=none:=fun b hb=>by
   have hbl:b<s.heap.objs.size:=by
    rcases List.mem_cons.mp hb with rfl|hb
    ·exact helt
    ·cases List.mem_singleton.mp hb;exact hilt
   rw [aH (Nat.ne_of_lt hbl)]
   exact (hf b hb).1
  refine wpAny_letOwnedTupleGo_enum ho fun g2 he2 hs2=>?_
  obtain ⟨f0,f1,f2,f3,f4,f5⟩:=hf e (by simp)
  refine ⟨.ref s.heap.objs.size,_,I1.turned (t':=tk+1) (fun b o hb z=>(hs2.2 b hb).trans z) (hno e (by simp)) f1 f3 f4 f5,rfl,⟨s.heap.objs.size,x,I.hok.fresh (Nat.le_refl _),rfl,fun ys hy=>by rw [I.list_inj hy hq];exact hx,rfl⟩,⟨⟨_,by simpa using he2⟩,?_⟩,hno⟩
  exact hst'.1.at fun o z=>(hs2.2 it (Ne.symm hei)).trans z
 done:=by
  intro X hP hw hK hc i Z s σ H E I hf st hg
  subst hP hw hK
  obtain ⟨xs,hq,hx⟩:=hg
  obtain ⟨its,rv,p,hz⟩:=I.list hq
  obtain ⟨⟨old,he⟩,ht⟩:=st
  obtain ⟨f0,f1,f2,f3,f4,f5⟩:=hf it (by simp)
  have hl:=rv.length
  have hit:s.heap.IsList a its.toArray:=p.isList
  have han:a≠it:=by
   rintro rfl
   obtain ⟨o1,h1,h2,_⟩:=id hit
   obtain ⟨o2,h3,h4,_⟩:=id ht
   rw [h1] at h3;cases h3
   rw [h2] at h4;exact absurd (Value.type.inj h4) (by decide)
  have D:=HN (prog:=X.prog) (w:=X.w) (A:=X.A.in1) (I.ok.hd hc) it a han its.toArray i (by rw [List.size_toArray];omega)
  exact wpAny_pyNext_enum_endD D he ⟨ht,hit⟩ fun h' ex=>⟨rfl,I.turned (t':=s.toks) (fun b o hb e=>ex b o hb e) f0 f1 f3 f4 f5⟩
 self:=fun _ _ _ _ _ st h=>let ⟨_,he⟩:=st.1;wpAny_pyIter_enum he h
def JR (K:PySem.W.Frag) (ta:TA):TI:=fun σ H R=>ta σ H fun vs H1=>∃ a,vs=[.ref a]/\(∃ xs,bD K H1 a xs)/\R (wK K a) H1
theorem sG {X:Cx} {elts:List Expr} {k1} {pt:Pos} {a:Expr} {ta:TA} {p pos:Pos} (hg:Gl X "enumerate") (hm:X.mg "enumerate" = none) (hv:bootBuiltins "enumerate" = some (.type "enumerate")) (ha:PA X [a] ta) (hs:starEach [a] X.env=[(false,eval a X.env)]:=by rfl):PI X (.Tuple elts k1 pt) (.Call (.Name "enumerate" p) [a] [] pos) (JR X.K ta):=by
 intro Z s σ H R I h
 refine Call_ (eU I hg hm hv (PyProof.Rows.callWith_type1 (cz (ha pos Z s σ H _ I h) fun us s1 ⟨vs,H1,I1,r1,q1⟩=>?_) hs rfl))
 obtain ⟨l,rfl,⟨xs,hq⟩,q⟩:=q1
 obtain ⟨u,rfl,e⟩:=vals1 r1
 cases (show u=Value.ref l from e)
 obtain ⟨its,rv,hp,hz⟩:=I1.list hq
 refine call_enumerate_list hp.isList fun g he hi _ hk=>wpAny_pyIter_enum he ?_
 refine ⟨s1.heap.objs.size+1,[s1.heap.objs.size+1,s1.heap.objs.size],_,_,H1,rfl,I1.kept (t':=s1.toks) hk,tU l _ s1.heap.objs.size (Nat.succ_ne_self _),⟨⟨_,he⟩,hi⟩,fun b hb=>?_,q⟩
 rcases List.mem_cons.mp hb with rfl|hb
 ·exact I1.fpOk (Nat.le_succ _) (I1.hok.fresh (Nat.le_succ _))
 ·cases List.mem_singleton.mp hb
  exact I1.fpOk (Nat.le_refl _) (I1.hok.fresh (Nat.le_refl _))
theorem wL {K:PySem.W.Frag} {a:Addr} {xs:List V} {g:TG} {tb:TS} {D:Ends} {σ:St} {H:Hp} (Pv:Nat->St->Hp->Prop) (h0:Pv 0 σ H) (hl:∀ i σ H,i≤xs.length->Pv i σ H->bD K H a xs)
 (hs:∀ i x σ H p,xs[i]?=some x->Pv i σ H->H p=none->g (.ref p) σ (upd H p (.tup [.int i,x])) fun σ2 H2=>tb { D with nx:=Pv (i+1),ct:=Pv (i+1),bk:=D.nx } σ2 H2)
 (hd:∀ σ H,Pv xs.length σ H->D.nx σ H) :
 ∃ W:Nat->Nat->St->Hp->Prop,(∃ m,W 0 m σ H)/\∀ i m σ H,W i m σ H->((wK K a).stop i H/\D.nx σ H)∨((wK K a).go i H/\∃ N:St->Hp->Prop,(∀ σ' H',N σ' H'->∃ m',m'<m/\W (i+1) m' σ' H')/\∀ x H',(wK K a).yld i H x H'->g x σ H' fun σ2 H2=>tb { D with nx:=N,ct:=N,bk:=D.nx } σ2 H2):=by
 refine ⟨fun i m σ H=>m=xs.length-i/\i≤xs.length/\Pv i σ H,⟨xs.length,by simp,Nat.zero_le _,h0⟩,?_⟩
 rintro i m σ H ⟨rfl,hi,p⟩
 have q:=hl i σ H hi p
 by_cases hlt:i<xs.length
 ·refine .inr ⟨⟨xs,xs[i],q,by simp [hlt]⟩,Pv (i+1),fun σ' H' z=>⟨xs.length-(i+1),by omega,rfl,hlt,z⟩,?_⟩
  rintro x H' ⟨p',y,hn,rfl,hy,rfl⟩
  exact hs i y σ H p' (hy xs q) p hn
 ·have e:i=xs.length:=by omega
  subst e
  exact .inl ⟨⟨xs,q,Nat.le_refl _⟩,hd σ H p⟩
end L2
namespace L2
open PySem PySem.Spec PyProof.Rows PySem.SeqAt PySem.Builtin PySem.Builtin.Str
end L2
namespace L2
open PySem PySem.Spec PyProof.Rows PySem.SeqAt PySem.Builtin
end L2
namespace L2
open PySem PySem.Spec PyProof.Rows PySem.SeqAt PySem.W Builtin.ObjectAttr
end L2
namespace L2
open PySem PySem.Spec PyProof.Rows PySem.SeqAt PySem.W
end L2
namespace L2
open PySem PySem.Spec PyProof.Rows
def yP (J:It) (g:TG) (tt:TT) (te:TE) (F:List V->St->Hp->Prop) (W:Nat->Nat->List V->St->Hp->Prop):Prop:=
 ∀ i m ys σ H,W i m ys σ H->(J.stop i H/\F ys σ H)∨(J.go i H/\ys.length<sizeLine/\∀ x H1,J.yld i H x H1->g x σ H1 fun σ2 H2=>tt σ2 H2 fun b H3=>
   if b=true then te σ2 H3 fun y H4=>∃ m',m'<m/\W (i+1) m' (ys++[y]) σ2 H4 else ∃ m',m'<m/\W (i+1) m' ys σ2 H3)
def qz (J:It) (g:TG) (tt:TT) (wi2:TI) (g2:TG) (tt2:TT) (te:TE) (F:List V->Hp->Prop) (W:Nat->Nat->List V->St->Hp->Prop):Prop:=
 ∀ i m ys σ H,W i m ys σ H->(J.stop i H/\F ys H)∨(J.go i H/\∀ x H1,J.yld i H x H1->g x σ H1 fun σ2 H2=>tt σ2 H2 fun b H3=>
   if b=true then wi2 σ2 H3 fun J2 H4=>∃ W2:Nat->Nat->List V->St->Hp->Prop,(∃ m2,W2 0 m2 ys σ2 H4)/\yP J2 g2 tt2 te (fun ys' σ' H'=>∃ m',m'<m/\W (i+1) m' ys' σ' H') W2
   else ∃ m',m'<m/\W (i+1) m' ys σ2 H3)
theorem sr (elt:Expr) (g0:Comprehension) (target iter:Expr) (ifs:List Expr) (scope:Scope) (pos:Pos) (it acc:Value) (env:Env) :
 compTurn (.ListComp elt [g0,⟨target,iter,ifs,0⟩] scope pos) 1 it acc env=(do
  standAt iter.pos
  match ← pyNext it with
  |none=>pure (.done .next)
  | some v=>
    letOwnedTupleGo target it v
    assign target env v
    let mut ok:=true
    for c in ifs do
     if ok then ok ← isTrue c env (eval c env)
    if ok then
     (do let _ ← call (.builtin "list.append") [acc,← eval elt env])
    again (.compLoop (.ListComp elt [g0,⟨target,iter,ifs,0⟩] scope pos) 1 it acc env)):=by rfl
theorem pZ (elt target iter:Expr) (ifs:List Expr) (target2 iter2:Expr) (ifs2:List Expr) (scope:Scope) (pos:Pos) (it acc:Value) (env:Env) :
 compTurn (.ListComp elt [⟨target,iter,ifs,0⟩,⟨target2,iter2,ifs2,0⟩] scope pos) 0 it acc env=(do
  standAt iter.pos
  match ← pyNext it with
  |none=>pure (.done .next)
  | some v=>
    letOwnedTupleGo target it v
    assign target env v
    let mut ok:=true
    for c in ifs do
     if ok then ok ← isTrue c env (eval c env)
    if ok then
     let x ← eval iter2 env
     standAt iter2.pos
     let x ← foldedSetIterable iter2 env x
     let _ ← runOwn (.compStart (.ListComp elt [⟨target,iter,ifs,0⟩,⟨target2,iter2,ifs2,0⟩] scope pos) 1 (← holding [x] (pyIter x)) acc env) env
    again (.compLoop (.ListComp elt [⟨target,iter,ifs,0⟩,⟨target2,iter2,ifs2,0⟩] scope pos) 0 it acc env)):=by rfl
theorem jd {elt g0 target iter ifs scope pos it acc env}
 (h0:codeAny (model prog w) A (.compLoop (.ListComp elt [g0,⟨target,iter,ifs,0⟩] scope pos) 1 it acc env) R s)
 (h:wpAny (model prog w) A (pyIter it) (fun it' s'=>codeAny (model prog w) A (.compLoop (.ListComp elt [g0,⟨target,iter,ifs,0⟩] scope pos) 1 it' acc env) R s')
  (notedBy (model prog w) A env fun x s'=>R (.error x) s') s) :
 codeAny (model prog w) A (.compStart (.ListComp elt [g0,⟨target,iter,ifs,0⟩] scope pos) 1 it acc env) R s:=by
 refine codeAny_of_tree ?_
 show wpAny _ _ ((compStart (.ListComp elt [g0,⟨target,iter,ifs,0⟩] scope pos) 1 it acc env).onRaise (fun x=>do noteFrame x env;standAt theWindowsPlace)) _ _ s
 refine wpAny_notedAt ?_
 unfold compStart
 show wpAny _ _ (ask >>= _) _ _ s
 refine wpAny_bind (wpAny_askSetting (wpAny_ite ?_))
 split
 ·first
   |exact wpAny_bind (wpAny_pure (wpAny_pure (And.intro rfl h0)))
   |exact wpAny_pure (And.intro rfl h0)
 ·first
   |exact wpAny_bind (wpAny_rule (wpAny_bind (wpAny_standAt (wpAny_bind (wpAny_mono h (fun it' s' h'=>wpAny_pure (And.intro rfl h')) fun _ _ x=>x)))))
   |(refine wpAny_bind (wpAny_rule ?_);show wpAny _ _ (standAt iter.pos >>= _) _ _ s;exact wpAny_bind (wpAny_standAt (wpAny_bind (wpAny_mono h (fun it' s' h'=>wpAny_pure (And.intro rfl h')) fun _ _ x=>x))))
theorem uy {Y:Cx} {ps:List (Addr×Obj)} {acc it:Addr} {fp:List Addr} {tn:Nat->Heap->Prop} {J:It} {g:TG} {tt:TT} {te:TE} {F:List V->St->Hp->Prop}
 {elt tg iter:Expr} {g0:Comprehension} {ifs:List Expr} {scope:Scope} {pos:Pos} {R:Result->Shared->Prop} (W:Nat->Nat->List V->St->Hp->Prop) (turn:yP J g tt te F W) (T:Turn Y.prog Y.w Y.K tg J fp it tn)
 (hg:PG Y tg g) (hc:jy Y ifs tt) (he:PE Y elt te) (hcalm:Y.calm=true) (hx:∀ v s,¬ Y.xe v s)
 (hfp:∀ b∈fp,b≠Y.env.locals/\b∉Y.fs/\(b∈Y.ex∨Y.s₀.heap.objs.size≤b)/\(∀ x c,Y.env.cells.lookup x=some c->c≠b)/\(∀ p∈Y.pn++ps,p.1≠b)/\b≠acc)
 (hacc:acc≠Y.env.locals/\acc∉Y.fs/\(acc∈Y.ex∨Y.s₀.heap.objs.size≤acc)/\(∀ x c,Y.env.cells.lookup x=some c->c≠acc)/\∀ p∈Y.pn++ps,p.1≠acc)
 (hR:∀ s' σ' H' ys us k,Inv Y ((acc,bJ us k)::ps) σ' H' s'->Vals ys us->F ys σ' H'->R (.ok .next) s')
 {s:Shared} {σ:St} {H:Hp} {m:Nat} {ys0:List V} {us0:List Value} {k0:Nat} (rv0:Vals ys0 us0) (I:Inv Y ((acc,bJ us0 k0)::ps) σ H s) (st:tn 0 s.heap) (fr:∀ b∈fp,H b=none) (w0:W 0 m ys0 σ H) :
 codeAny (model Y.prog Y.w) Y.A (.compLoop (.ListComp elt [g0,⟨tg,iter,ifs,0⟩] scope pos) 1 (.ref it) (.ref acc) Y.env) R s:=by
 refine codeAny_loop rfl (fun n s'=>∃ i ys us k σ' H',Vals ys us/\Inv Y ((acc,bJ us k)::ps) σ' H' s'/\tn i s'.heap/\(∀ b∈fp,H' b=none)/\W i n ys σ' H') (fun n s3 hI=>?_) m ⟨0,ys0,us0,k0,σ,H,rv0,I,st,fr,w0⟩
 obtain ⟨i,ys,us,k,σ3,H3,rv,I3,st3,fr3,w3⟩:=hI
 show wpAny _ Y.A ((compTurn (.ListComp elt [g0,⟨tg,iter,ifs,0⟩] scope pos) 1 (.ref it) (.ref acc) Y.env).onRaise (fun x=>do noteFrame x Y.env;theTreesLotGoes x)) _ _ s3
 refine wpAny_noted ?_
 rw [sr]
 have fpk:∀ {H':Hp},(∀ b∈fp,H' b=none)->∀ b∈fp,gZ Y ((acc,bJ us k)::ps) H' b:=fun hn b hb=>
  ⟨hn b hb,(hfp b hb).1,(hfp b hb).2.1,(hfp b hb).2.2.1,(hfp b hb).2.2.2.1,fun p hp'=>by
   rcases List.mem_append.mp hp' with z|z
   ·exact (hfp b hb).2.2.2.2.1 p (List.mem_append_left _ z)
   ·rcases List.mem_cons.mp z with rfl|z
    ·exact Ne.symm (hfp b hb).2.2.2.2.2
    ·exact (hfp b hb).2.2.2.2.1 p (List.mem_append_right _ z)⟩
 have fp1:=fpk fr3
 refine wpAny_bind (wpAny_standAt (wpAny_bind ?_))
 rcases turn i n ys σ3 H3 w3 with ⟨stop,qn⟩|⟨go,hz,step⟩
 ·refine wpAny_mono (T.done Y rfl rfl rfl hcalm i _ s3 σ3 H3 (fun _ _=>False) I3 fp1 st3 stop) (fun r s4 ⟨hr,I4⟩=>?_) (fun _ _ z=>z.elim)
  subst hr
  exact wpAny_pure (hR s4 σ3 H3 ys us k I4 rv qn)
 ·refine wpAny_mono (T.item Y rfl rfl rfl hcalm i _ s3 σ3 H3 (fun _ _=>False) I3 fp1 st3 go) (fun r s4 ⟨u,hr,h4⟩=>?_) (fun _ _ z=>z.elim)
  subst hr
  refine wpAny_bind (wpAny_mono h4 (fun _ s5 ⟨x,H5,I5,r5,y5,st5,fr5⟩=>?_) (fun _ _ z=>z.elim))
  have fp5:=fpk fr5
  have I5':=I5.pinned fp5 (T.obj _ _ st5)
  refine wpAny_bind (wpAny_mono (hg _ s5 σ3 H5 x u _ I5' r5 (step x H5 y5)) (fun _ s6 ⟨σ6,H6,I6,q6⟩=>?_) (fun v s z=>(hx v s z).elim))
  refine wpAny_bind (wpAny_mono (hc _ s6 σ6 H6 _ I6 q6) (fun ok s7 ⟨H7,I7,q7⟩=>?_) (fun v s z=>(hx v s z).elim))
  have again:∀ {s8:Shared} {σ8:St} {H8:Hp},Inv Y (((acc,bJ us k)::ps)++gP fp s5.heap) σ8 H8 s8->tn (i+1) s8.heap/\∀ b∈fp,H8 b=none:=fun {s8 σ8 H8} I8=>
   ⟨T.keep _ _ _ st5 fun b hb o e=>(I8.pin (b,o) (List.mem_append_right _ (List.mem_append_right _ (cP hb e)))).1,fun b hb=>by
    obtain ⟨o,e,d⟩:=T.obj _ _ st5 b hb
    exact (I8.pin (b,o) (List.mem_append_right _ (List.mem_append_right _ (cP hb e)))).2.1⟩
  cases ok with
  | false=>
    rw [if_neg Bool.false_ne_true] at q7
    obtain ⟨m',hm,w7⟩:=q7
    obtain ⟨t1,t2⟩:=again I7
    exact wpAny_pure ⟨rfl,m',hm,i+1,ys,us,k,σ6,H7,rv,I7.unpinned,t1,t2,w7⟩
  | true=>
    rw [if_pos rfl] at q7
    refine wpAny_bind (wpAny_bind (wpAny_mono (he _ s7 σ6 H7 _ I7 q7) (fun y s8 ⟨yv,H8,I8,r8,m',hm,w8⟩=>?_) (fun v s z=>(hx v s z).elim)))
    obtain ⟨t1,t2⟩:=again I8
    obtain ⟨e8,n8,l8,f8,d8⟩:=I8.pin (acc,bJ us k) (List.mem_append_right _ (List.mem_append_left _ List.mem_cons_self))
    have hlen:=rv.length
    have hz':us.toArray.size≤sizeLine:=by rw [List.size_toArray];omega
    refine wpAny_bind (call_meets PySem.F.slot_list_append ⟨_,e8,rfl⟩ PySem.F.entry_list_append (PySem.F.args_list_append_2 _ _) (PySem.list_append acc us.toArray k y hz') ⟨e8,?_⟩)
    have q:=PySem.IsL.update e8 (fun z=>z.push y)
    have I9:Inv Y ps σ6 H8 s8:=I8.pins_of fun p hp=>I8.pin p (List.mem_append_right _ (List.mem_append_left _ (List.mem_cons_of_mem _ hp)))
    have I10:=I9.turned (t':=s8.toks) (it:=acc) (h':=s8.heap.update acc (Obj.mapSeq fun z=>z.push y)) (fun b o hb e=>(Heap.get?_update_other s8.heap _ (Ne.symm hb)).trans e) n8 hacc.1 hacc.2.2.1 hacc.2.2.2.1 hacc.2.2.2.2
    have e':(us.toArray.push y)=(us++[y]).toArray:=by simp
    rw [e'] at q
    obtain ⟨k9,ek⟩:∃ k9,k9=(if ((us++[y]).toArray.size == us.toArray.size)=true then k else k+1):=⟨_,rfl⟩
    rw [← ek] at q
    have I11:=I10.pins_of (pins':=(acc,bJ (us++[y]) k9)::ps) fun p hp=>by
     rcases List.mem_cons.mp hp with rfl|hp
     ·exact ⟨q,n8,hacc.1,hacc.2.1,fun v z=>by cases z⟩
     ·exact I10.pin p (List.mem_append_right _ hp)
    refine wpAny_pure (wpAny_pure ⟨rfl,m',hm,i+1,ys++[yv],us++[y],k9,σ6,H8,rv.append (.cons r8 .nil),I11,T.keep _ _ _ t1 fun b hb o e=>?_,t2,w8⟩)
    exact (Heap.get?_update_other s8.heap _ (hfp b hb).2.2.2.2.2.symm).trans e
theorem uo
 (W : Nat->Nat->List V->St->Hp->Prop) (turn:qz J g tt wi2 g2 tt2 te F W) (T:Turn X.prog X.w X.K tg J fp it tn)
    (hg:PG (aR X scope N' cl C s₂ H₂ fp) tg g) (hc:jy (aR X scope N' cl C s₂ H₂ fp) ifs tt) (hi2:PI (aR X scope N' cl C s₂ H₂ fp) tg2 iter2 wi2) (hs2:∀ x,foldedSetIterable iter2 (compEnvC scope cl C X.env) x=pure x) (hg2:PG (aR X scope N' cl C s₂ H₂ fp) tg2 g2) (hc2:jy (aR X scope N' cl C s₂ H₂ fp) ifs2 tt2) (he:PE (aR X scope N' cl C s₂ H₂ fp) elt te) (hcalm:X.calm=true)
    (hfp:∀ b∈fp,b≠C/\b∉frs X.stack/\(∀ x c,cl.lookup x=some c->c≠b)/\b≠acc) (hacc:acc≠C/\acc∉frs X.stack/\(∀ x c,cl.lookup x=some c->c≠acc)/\s₂.heap.objs.size≤acc)
    (hR:∀ s' σ' H' ys us k,Inv (aR X scope N' cl C s₂ H₂ fp) [(acc,bJ us k)] σ' H' s'->Vals ys us->F ys H'->R (.ok .next) s')
 (I : Inv (aR X scope N' cl C s₂ H₂ fp) [(acc,bJ [] 0)] σ H s) (st:tn 0 s.heap) (fr:∀ b∈fp,H b=none) (w0:W 0 m [] σ H) :
    codeAny (model X.prog X.w) X.A (.compLoop (.ListComp elt [⟨tg,iter,ifs,0⟩,⟨tg2,iter2,ifs2,0⟩] scope pos) 0 (.ref it) (.ref acc) (compEnvC scope cl C X.env)) R s:=by
  refine codeAny_loop rfl (fun n s'=>∃ i ys us k σ' H',Vals ys us/\Inv (aR X scope N' cl C s₂ H₂ fp) [(acc,bJ us k)] σ' H' s'/\tn i s'.heap/\(∀ b∈fp,H' b=none)/\W i n ys σ' H') (fun n s3 hI=>?_) m ⟨0,[],[],0,σ,H,.nil,I,st,fr,w0⟩
  obtain ⟨i,ys,us,k,σ3,H3,rv,I3,st3,fr3,w3⟩:=hI
  show wpAny _ X.A ((compTurn (.ListComp elt [⟨tg,iter,ifs,0⟩,⟨tg2,iter2,ifs2,0⟩] scope pos) 0 (.ref it) (.ref acc) (compEnvC scope cl C X.env)).onRaise (fun x=>do noteFrame x (compEnvC scope cl C X.env);theTreesLotGoes x)) _ _ s3
  refine wpAny_noted ?_
  rw [pZ]
  have fpk:∀ {Z:List (Addr×Obj)} {H':Hp},(∀ p∈Z,p.1=acc∨p.1∈([]:List Addr))->(∀ b∈fp,H' b=none)->∀ b∈fp,gZ (aR X scope N' cl C s₂ H₂ fp) Z H' b:=fun hp hn b hb=>
   ⟨hn b hb,(hfp b hb).1,(hfp b hb).2.1,.inl hb,(hfp b hb).2.2.1,fun p hp'=>by
    have hp'':p∈([]:List (Addr×Obj))++_:=hp'
    rcases hp p (by simpa using hp'') with z|z
    ·rw [z];exact Ne.symm (hfp b hb).2.2.2
    ·exact (nomatch z)⟩
  have fp1:=fpk (Z:=[(acc,bJ us k)]) (fun p hp=>.inl (by simp at hp;rw [hp])) fr3
  refine wpAny_bind (wpAny_standAt (wpAny_bind ?_))
  rcases turn i n ys σ3 H3 w3 with ⟨stop,qn⟩|⟨go,step⟩
  ·refine wpAny_mono (T.done (aR X scope N' cl C s₂ H₂ fp) rfl rfl rfl hcalm i _ s3 σ3 H3 (fun _ _=>False) I3 fp1 st3 stop) (fun r s4 ⟨hr,I4⟩=>?_) (fun _ _ z=>z.elim)
   subst hr
   exact wpAny_pure (hR s4 σ3 H3 ys us k I4 rv qn)
  ·refine wpAny_mono (T.item (aR X scope N' cl C s₂ H₂ fp) rfl rfl rfl hcalm i _ s3 σ3 H3 (fun _ _=>False) I3 fp1 st3 go) (fun r s4 ⟨u,hr,h4⟩=>?_) (fun _ _ z=>z.elim)
   subst hr
   refine wpAny_bind (wpAny_mono h4 (fun _ s5 ⟨x,H5,I5,r5,y5,st5,fr5⟩=>?_) (fun _ _ z=>z.elim))
   have fp5:=fpk (Z:=[(acc,bJ us k)]) (fun p hp=>.inl (by simp at hp;rw [hp])) fr5
   have I5':=I5.pinned fp5 (T.obj _ _ st5)
   refine wpAny_bind (wpAny_mono (hg _ s5 σ3 H5 x u _ I5' r5 (step x H5 y5)) (fun _ s6 ⟨σ6,H6,I6,q6⟩=>?_) (fun _ _ z=>z.elim))
   refine wpAny_bind (wpAny_mono (hc _ s6 σ6 H6 _ I6 q6) (fun ok s7 ⟨H7,I7,q7⟩=>?_) (fun _ _ z=>z.elim))
   have again:∀ {s8:Shared} {σ8:St} {H8:Hp} {us8:List Value} {k8:Nat},Inv (aR X scope N' cl C s₂ H₂ fp) ((acc,bJ us8 k8)::gP fp s5.heap) σ8 H8 s8->Inv (aR X scope N' cl C s₂ H₂ fp) [(acc,bJ us8 k8)] σ8 H8 s8/\tn (i+1) s8.heap/\∀ b∈fp,H8 b=none:=fun {s8 σ8 H8 us8 k8} I8=>
    ⟨Inv.unpinned (Z:=[(acc,bJ us8 k8)]) I8,T.keep _ _ _ st5 fun b hb o e=>(I8.pin (b,o) (List.mem_append_right _ (List.mem_cons_of_mem _ (cP hb e)))).1,fun b hb=>by
     obtain ⟨o,e,d⟩:=T.obj _ _ st5 b hb
     exact (I8.pin (b,o) (List.mem_append_right _ (List.mem_cons_of_mem _ (cP hb e)))).2.1⟩
   cases ok with
   | false=>
     rw [if_neg Bool.false_ne_true] at q7
     obtain ⟨m',hm,w7⟩:=q7
     obtain ⟨I7',t1,t2⟩:=again I7
     exact wpAny_pure ⟨rfl,m',hm,i+1,ys,us,k,σ6,H7,rv,I7',t1,t2,w7⟩
   | true=>
     rw [if_pos rfl] at q7
     refine wpAny_bind (wpAny_mono (hi2 _ s7 σ6 H7 _ I7 q7) (fun v s8 h8=>?_) (fun _ _ z=>z.elim))
     refine wpAny_bind (wpAny_standAt ?_)
     rw [hs2 v]
     refine wpAny_bind (wpAny_pure ?_)
     refine wpAny_bind (wpAny_holding (wpAny_mono h8 (fun itv s9 h9=>?_) (fun _ _ z=>z.elim)))
     obtain ⟨it2,fp2,tn2,J2,H9,e9,I9,T2,st9,f9,W2,⟨m2,w2⟩,turn2⟩:=h9
     subst e9
     have loop:∀ Q:Flow->Shared->Prop,(∀ s10,(∃ m',m'<n/\∃ i ys us k σ' H',Vals ys us/\Inv (aR X scope N' cl C s₂ H₂ fp) [(acc,bJ us k)] σ' H' s10/\tn i s10.heap/\(∀ b∈fp,H' b=none)/\W i m' ys σ' H')->Q .next s10)->
      codeAny (model X.prog X.w) X.A (.compLoop (.ListComp elt [⟨tg,iter,ifs,0⟩,⟨tg2,iter2,ifs2,0⟩] scope pos) 1 (.ref it2) (.ref acc) (compEnvC scope cl C X.env)) (fun r s'=>match r with|.ok f=>Q f s'|.error e=>cameBackBy (model X.prog X.w) X.A (compEnvC scope cl C X.env) (notedBy (model X.prog X.w) X.A (compEnvC scope cl C X.env) fun x s'=>R (.error x) s') e s') s9:=by
      intro Q hQ
      refine uy (Y:=aR X scope N' cl C s₂ H₂ fp) (ps:=gP fp s5.heap) W2 turn2 T2 hg2 hc2 he hcalm (fun _ _ z=>z) (fun b hb=>?_) ⟨hacc.1,hacc.2.1,.inr hacc.2.2.2,hacc.2.2.1,fun p hp z=>?_⟩ (fun s' σ' H' ys' us' k' I' rv' q'=>?_) rv I9 st9 (fun b hb=>(f9 b hb).1) w2
      ·obtain ⟨_,a1,a2,a3,a4,a5⟩:=f9 b hb
       refine ⟨a1,a2,a3,a4,fun p hp=>?_,fun z=>?_⟩
       ·rcases List.mem_append.mp hp with y|y
        ·exact a5 p (List.mem_append_left _ y)
        ·exact a5 p (List.mem_append_right _ (List.mem_cons_of_mem _ y))
       ·exact a5 (acc,bJ us k) (List.mem_append_right _ List.mem_cons_self) z.symm
      ·have hp':p∈([]:List (Addr×Obj))++gP fp s5.heap:=hp
       rw [List.nil_append] at hp'
       obtain ⟨hb,_⟩:=p6 hp'
       exact (hfp _ hb).2.2.2 z
      ·obtain ⟨m',hm,w'⟩:=q'
       obtain ⟨I8',t1,t2⟩:=again I'
       exact hQ s' ⟨m',hm,i+1,ys',us',k',σ',H',rv',I8',t1,t2,w'⟩
     refine wpAny_bind (wpAny_runOwn (jd (loop _ fun s10 q=>?_) (T2.self _ 0 _ _ _ st9 (loop _ fun s10 q=>?_))))
     ·obtain ⟨m',hm,q⟩:=q
      exact wpAny_pure ⟨rfl,m',hm,q⟩
     ·obtain ⟨m',hm,q⟩:=q
      exact wpAny_pure ⟨rfl,m',hm,q⟩
def Jx (wi:TI) (g:TG) (tt:TT) (wi2:TI) (g2:TG) (tt2:TT) (te:TE) (k:Nat) (js:List Nat):TE:=fun σ H Q=>wi σ H fun J H1=>∃ W:Nat->Nat->List V->St->Hp->Prop,(∃ m,W 0 m [] (dY k js σ) H1)/\
 qz J g tt wi2 g2 tt2 te (fun ys H2=>ys.length≤sizeLine/\∀ p,H2 p=none->Q (.ref p) (upd H2 p (.lst ys))) W
theorem xm {X:Cx} {scope:Scope} {own:List Str} {s:Shared} {tn:Nat->Heap->Prop} {cl:List (Str×Addr)} {F:List V->Hp->Prop} {RR:Value->Addr->Result->Shared->Prop}
 (S:bw X scope own js N') (hcalm:X.calm=true) (hg:∀ cl C s₀ H₀ ex,PG (aR X scope N' cl C s₀ H₀ ex) tg g) (hc:∀ cl C s₀ H₀ ex,jy (aR X scope N' cl C s₀ H₀ ex) ifs tt) (hi2:∀ cl C s₀ H₀ ex,PI (aR X scope N' cl C s₀ H₀ ex) tg2 iter2 wi2) (hs2:∀ env x,foldedSetIterable iter2 env x=pure x) (hg2:∀ cl C s₀ H₀ ex,PG (aR X scope N' cl C s₀ H₀ ex) tg2 g2) (hc2':∀ cl C s₀ H₀ ex,jy (aR X scope N' cl C s₀ H₀ ex) ifs2 tt2) (he:∀ cl C s₀ H₀ ex,PE (aR X scope N' cl C s₀ H₀ ex) elt te)
 (hc1:∀ x c,cl.lookup x=some c->X.env.cells.lookup x=some c) (hc2:∀ x,(x,NameKind.free)∈scope.names->∃ c,cl.lookup x=some c)
 (I:Inv X Z σ H s) (T:Turn X.prog X.w X.K tg J fp it tn) (st:tn 0 s.heap) (hf:∀ b∈fp,gZ X Z H b) (W:Nat->Nat->List V->St->Hp->Prop) (w0:W 0 m0 [] (dY own.length js σ) H) (turn:qz J g tt wi2 g2 tt2 te F W)
 (hF:∀ ys H',F ys H'->ys.length≤sizeLine)
 (fin:∀ acc C H' ys s' m,Inv X Z σ (upd H' acc (.lst ys)) s'->H' acc=none->s'.heap.Ns C m->(upd H' acc (.lst ys)) C=none->C≠X.env.locals->X.s₀.heap.objs.size≤C->(∀ x c,X.env.cells.lookup x=some c->c≠C)->(∀ p∈X.pn++Z,p.1≠C)->F ys H'->RR (.ref acc) C (.ok .next) s') :
 wpAny (model X.prog X.w) X.A (newList []) (fun acc s₃=>wpAny (model X.prog X.w) X.A (newFunctionEnv scope X.env.globals cl [] X.env.qual none .none (some X.env)) (fun cenv s₄=>
  codeAny (model X.prog X.w) X.A (.compStart (.ListComp elt [⟨tg,iter,ifs,0⟩,⟨tg2,iter2,ifs2,0⟩] scope pos) 0 (.ref it) acc { cenv with scope:=relabel scope X.env }) (RR acc cenv.locals) s₄) E s₃) E s:=by
 refine wpAny_newObj_type (wpAny_newFunctionEnv S.nocell (by intro y hy;simp at hy) (fun h₁ hns₁ hsb₁=>?_) S.kind)
 dsimp only at hns₁ hsb₁ ⊢
 generalize hH2:s.heap.push { cls:=.type "list",dict:=none,data:=.seq ([]:List Value).toArray }=H2 at hns₁ hsb₁ ⊢
 have hC:H2.objs.size=s.heap.objs.size+1:=by rw [← hH2,Heap.size_push]
 have hDC:s.heap.objs.size≠H2.objs.size:=by rw [hC];exact Nat.ne_of_lt (Nat.lt_succ_self _)
 have hCle:s.heap.objs.size≤H2.objs.size:=by rw [hC];exact Nat.le_succ _
 have below:∀ b,b<s.heap.objs.size->b≠H2.objs.size/\b≠s.heap.objs.size:=fun b hb=>⟨by rw [hC];exact Nat.ne_of_lt (Nat.lt_succ_of_lt hb),Nat.ne_of_lt hb⟩
 have old:∀ b o,s.heap.get? b=some o->h₁.get? b=some o:=fun b o e=>hsb₁.extBut b o (below b (Heap.lt_size e)).1 (Heap.get?_push_of_some _ (hH2 ▸ Heap.get?_push_of_some _ e))
 have hacc:h₁.get? s.heap.objs.size=some (bJ [] 0):=hsb₁.extBut _ _ hDC (Heap.get?_push_of_some _ (hH2 ▸ Heap.get?_push_size _ rfl))
 generalize hCn:H2.objs.size=C at *
 generalize hAn:s.heap.objs.size=acc at *
 have cellLt:∀ x c,X.env.cells.lookup x=some c->c<acc:=fun x c e=>by
  obtain ⟨v,q⟩:=I.cell x c e
  rw [← hAn];exact q.lt
 have pinLt:∀ p∈X.pn++Z,p.1<acc:=fun p hp=>by rw [← hAn];exact Heap.lt_size (I.pin p hp).1
 have stkLt:∀ b∈frs X.stack,b<acc:=fun b hb=>by
  obtain ⟨_,o,ho,_⟩:=I.stack.mem hb
  rw [← hAn];exact Heap.lt_size ho
 have fpLt:∀ b∈fp,b<acc:=fun b hb=>by
  obtain ⟨o,e,_⟩:=T.obj _ _ st b hb
  rw [← hAn];exact Heap.lt_size e
 have hHC:H C=none:=I.hok.fresh (by rw [hAn];exact hCle)
 have hHA:H acc=none:=I.hok.fresh (by rw [hAn];exact Nat.le_refl _)
 have I1:Inv (aR X scope N' cl C s H fp) [] (dY own.length js σ) H { s with heap:=h₁,toks:=s.toks+([]:List (Str×Value)).length }:=
  Inv.comp S I hc1 hc2 (by rw [hAn];exact hCle) hns₁ old (fun b hb=>⟨hf b hb,by rw [hAn];exact fpLt b hb⟩) hHC fun b o e=>(below b (by rw [← hAn];exact Heap.lt_size e)).1
 have I2:Inv (aR X scope N' cl C s H fp) [(acc,bJ [] 0)] (dY own.length js σ) H { s with heap:=h₁,toks:=s.toks+([]:List (Str×Value)).length }:=I1.pins_of fun p hp=>by
  obtain rfl:p=(acc,bJ [] 0):=by simpa using hp
  exact ⟨hacc,hHA,hDC,fun z=>absurd (stkLt acc z) (Nat.lt_irrefl _),fun v z=>by cases z⟩
 have st1:tn 0 h₁:=T.keep _ _ _ st fun b hb o e=>old b o e
 have loop:∀ s₃:Shared,s₃={ s with heap:=h₁,toks:=s.toks+([]:List (Str×Value)).length }->
  codeAny (model X.prog X.w) X.A (.compLoop (.ListComp elt [⟨tg,iter,ifs,0⟩,⟨tg2,iter2,ifs2,0⟩] scope pos) 0 (.ref it) (.ref acc) (compEnvC scope cl C X.env)) (RR (.ref acc) C) s₃:=by
  rintro s₃ rfl
  refine uo W turn T (hg _ _ _ _ _) (hc _ _ _ _ _) (hi2 _ _ _ _ _) (hs2 _) (hg2 _ _ _ _ _) (hc2' _ _ _ _ _) (he _ _ _ _ _) hcalm
   (fun b hb=>⟨(below b (fpLt b hb)).1,fun z=>?_,fun x c e z=>(hf b hb).2.2.2.2.1 x c (hc1 x c e) z,(below b (fpLt b hb)).2⟩)
   ⟨hDC,fun z=>absurd (stkLt acc z) (Nat.lt_irrefl _),fun x c e z=>absurd (cellLt x c (hc1 x c e)) (by rw [z];exact Nat.lt_irrefl _),by rw [hAn];exact Nat.le_refl _⟩ ?_ I2 st1 (fun b hb=>(hf b hb).1) w0
  ·rcases List.mem_cons.mp (I.stkSub b z) with q|q
   ·exact (hf b hb).2.1 q
   ·exact (hf b hb).2.2.1 q
  ·intro s' σ' H' ys us k J' rv q
   obtain ⟨e',n',l',f',d'⟩:=J'.pin (acc,bJ us k) (List.mem_append_right _ List.mem_cons_self)
   have n'':H' acc=none:=n'
   obtain ⟨m,hm,_⟩:=J'.loc
   have oldLt:∀ b o,s.heap.get? b=some o->b<acc:=fun b o e=>by rw [← hAn];exact Heap.lt_size e
   have neA:∀ b o,s.heap.get? b=some o->b≠acc:=fun b o e=>Nat.ne_of_lt (oldLt b o e)
   have un:Un (frs X.stack) fp H (upd H' acc (.lst ys)) s.heap s'.heap:=⟨J'.base.keep,J'.base.slot,fun b o e n hx=>by rw [aH (neA b o e)];exact J'.base.free b o e n hx,J'.base.there,
    fun b xs e=>by
     have z:=J'.base.tups b xs e
     rw [aH (aB z n'')];exact z,
    fun b o u e=>by
     have z:=J'.base.frzs b o u e
     rw [aH (aB z n'')];exact z,
    fun b ps e=>by
     obtain ⟨more,z⟩:=J'.base.tbls b ps e
     exact ⟨more,by rw [aH (aB z n'')];exact z⟩⟩
   have hok:jK X.prog X.w (upd H' acc (.lst ys)) s'.heap:=fun b u e=>by
    by_cases hb:b=acc
    ·subst hb
     rw [ao] at e;cases e
     exact ⟨hF _ _ q,us,k,rv,e'⟩
    ·rw [aH hb] at e
     exact (J'.hok b u e).stay (fun c v _ z=>z) (fun c z=>by rw [aH (aB z n'')];exact z) fun c xs z=>by rw [aH (aB z n'')];exact z
   have IX:Inv X Z σ (upd H' acc (.lst ys)) s':=I.call' J'.os un hok J'.bare fun b hb=>⟨(hf b hb).2.2.2.1,(hf b hb).2.1,(hf b hb).2.2.2.2.1,(hf b hb).2.2.2.2.2⟩
   refine fin acc C H' ys s' m IX n'' hm ?_ ?_ ?_ ?_ ?_ q
   ·rw [aH (Ne.symm hDC)];exact J'.free
   ·exact Nat.ne_of_gt (Nat.lt_of_lt_of_le I.lt (by rw [hAn];exact hCle))
   ·exact Nat.le_trans I.sz (by rw [hAn];exact hCle)
   ·exact fun x c e z=>absurd (Nat.lt_of_lt_of_le (cellLt x c e) hCle) (by rw [z];exact Nat.lt_irrefl _)
   ·exact fun p hp z=>absurd (Nat.lt_of_lt_of_le (pinLt p hp) hCle) (by rw [z];exact Nat.lt_irrefl _)
 exact codeAny_compStart_list (loop _ rfl) (T.self _ 0 _ _ _ st1 (loop _ rfl))
theorem su (S:bw X scope own js N') (hcalm:X.calm=true) (hN:X.N.Nodup) (hx:X.N[i]?=some x) (hk:X.env.scope.names.lookup x=some .local) (hi:PI X tg iter wi) (hg:∀ cl C s₀ H₀ ex,PG (aR X scope N' cl C s₀ H₀ ex) tg g) (hc:∀ cl C s₀ H₀ ex,jy (aR X scope N' cl C s₀ H₀ ex) ifs tt)
 (hi2:∀ cl C s₀ H₀ ex,PI (aR X scope N' cl C s₀ H₀ ex) tg2 iter2 wi2) (hs2:∀ env x,foldedSetIterable iter2 env x=pure x) (hg2:∀ cl C s₀ H₀ ex,PG (aR X scope N' cl C s₀ H₀ ex) tg2 g2) (hc2':∀ cl C s₀ H₀ ex,jy (aR X scope N' cl C s₀ H₀ ex) ifs2 tt2) (he:∀ cl C s₀ H₀ ex,PE (aR X scope N' cl C s₀ H₀ ex) elt te) (hsw:swapsWith (.ListComp elt [⟨tg,iter,ifs,0⟩,⟨tg2,iter2,ifs2,0⟩] scope pos) (some (.Name x pos')) spos.line X.env=pure true:=by rfl) (hs:∀ x,foldedSetIterable iter X.env x=pure x:=by intro _;rfl) :
 PS X (.Assign [.Name x pos'] (.ListComp elt [⟨tg,iter,ifs,0⟩,⟨tg2,iter2,ifs2,0⟩] scope pos) spos) (BL (Jx wi g tt wi2 g2 tt2 te own.length js) (bh i)):=by
 intro Z s σ H D I h
 obtain ⟨cl,hcl,hc1,hc2⟩:=iH (env:=X.env) scope fun y hy hk=>I.ok.has y.1 (S.free y hy hk)
 rw [exec_Assign_Name_used _ _ _ _ hsw]
 refine wpAny_bind (wpAny_standAt (wpAny_bind ?_))
 show wpAny _ X.A (do let _ ← comprehension (.ListComp elt [⟨tg,iter,ifs,0⟩,⟨tg2,iter2,ifs2,0⟩] scope pos) scope X.env _ (newList []) false (eval iter X.env) (some (assign (.Name x pos') X.env))) _ _ s
 refine wpAny_bind (wpAny_mono (wpAny_comprehension_free (use:=some (assign (.Name x pos') X.env)) (Q:=fun _ s'=>SP X Z D .next s') rfl hs hcl S.kind S.names
  (cz (hi Z s σ H _ I h) fun v s1 h1=>cz h1 fun itv s2 h2=>?_)) (fun _ s' hq=>wpAny_pure (wpAny_pure hq)) fun _ _ e=>e)
 obtain ⟨it,fp,tn,J,H2,e,I2,T,st2,f2,W,⟨m0,w0⟩,turn⟩:=h2
 subst e
 refine xm (RR:=fun acc C=>compPost (model X.prog X.w) X.A X.xe (some (assign (.Name x pos') X.env)) (fun _ s'=>SP X Z D .next s') acc C) S hcalm hg hc hi2 hs2 hg2 hc2' he hc1 hc2 I2 T st2 f2 W w0 turn (fun ys H' q=>q.1) ?_
 intro acc C H' ys s' m IX na hm hCn hL hz hcn hpn q
 show wpAny _ X.A (assign (.Name x pos') X.env (.ref acc)) _ _ s'
 refine wpAny_assign_Name (lB IX hN hx (.inl hk) (v:=.ref acc) rfl (fun s'' I'' hsb=>?_) (.inr hk))
 obtain ⟨a,hsb,ha⟩:=hsb
 have haC:C≠a:=by
  rcases ha with z|z
  ·rw [z];exact hL
  ·exact fun q=>hcn x a z q.symm
 refine ⟨m,hm.sameBut hsb haC,fun h' hs'=>⟨_,_,?_,q.2 acc na⟩⟩
 exact I''.turned (t':=s''.toks) (it:=C) (fun b o hb e=>(hs'.2 b hb).trans e) hCn hL (.inr hz) hcn hpn
theorem kj:∀ {us:List Value} {ns:List Int},IntsAre us ns->Vals (ns.map V.int) us
 |_,_,.nil=>.nil
 |_,_,.cons n t h=>.cons ⟨t,rfl⟩ (kj h)
end L2
namespace L2
open PySem PySem.Spec PyProof.Rows PySem.SeqAt
section
open PySem.F
end
section
variable {K:Type} [DecidableEq K]
end
def qg (xs:Array Nat):Prop:=∀ i j a b:Nat,i<j->xs[i]?=some a->xs[j]?=some b->a<b
theorem mQ (R:qg xs):∀ (f lo hi:Nat),lo≤hi->hi≤xs.size->hi-lo≤f->(∀ i a,i<lo->xs[i]?=some a->a<j)->(∀ i a,hi≤i->xs[i]?=some a->j≤a)->
 SetTable.below.go xs j f lo hi≤xs.size/\(∀ i a,i<SetTable.below.go xs j f lo hi->xs[i]?=some a->a<j)/\∀ i a,SetTable.below.go xs j f lo hi≤i->xs[i]?=some a->j≤a
 | 0,lo,hi,h1,h2,h3,a1,a2=>by
   have e:lo=hi:=by omega
   subst e
   exact ⟨h2,a1,a2⟩
 | f+1,lo,hi,h1,h2,h3,a1,a2=>by
   unfold SetTable.below.go
   split
   ·rename_i hlt
    have hm:(lo+hi) / 2<xs.size:=by omega
    have eg:xs[(lo+hi) / 2]?=some (xs.getD ((lo+hi) / 2) j):=by rw [Array.getD_eq_getD_getElem?,Array.getElem?_eq_getElem hm];rfl
    dsimp only
    generalize xs.getD ((lo+hi) / 2) j=y at eg ⊢
    by_cases hs:y<j
    ·simp only [if_pos hs]
     refine mQ R f ((lo+hi) / 2+1) hi (by omega) h2 (by omega) (fun i a hi' e=>?_) a2
     by_cases q:i=(lo+hi) / 2
     ·subst q;rw [eg] at e;cases e;exact hs
     ·exact Nat.lt_trans (R i ((lo+hi) / 2) a _ (by omega) e eg) hs
    ·simp only [if_neg hs]
     refine mQ R f lo ((lo+hi) / 2) (by omega) (by omega) (by omega) a1 (fun i a hi' e=>?_)
     by_cases q:i=(lo+hi) / 2
     ·subst q;rw [eg] at e;cases e;omega
     ·exact Nat.le_trans (Nat.not_lt.mp hs) (Nat.le_of_lt (R ((lo+hi) / 2) i _ a (by omega) eg e))
   ·rename_i hlt
    have e:lo=hi:=by omega
    subst e
    exact ⟨h2,a1,a2⟩
theorem rD (R:qg xs):SetTable.below xs j≤xs.size/\(∀ i a,i<SetTable.below xs j->xs[i]?=some a->a<j)/\∀ i a,SetTable.below xs j≤i->xs[i]?=some a->j≤a:=
 mQ R _ _ _ (Nat.zero_le _) (Nat.le_refl _) (by omega) (fun i a h=>by omega) fun i a h e=>by
  have:=(Array.getElem?_eq_some_iff.mp e).1
  omega
theorem wW {α:Type} {xs:Array α} {p:Nat} {x:α} (hp:p≤xs.size) (i:Nat):(SetTable.insertAt xs p x)[i]?=if i<p then xs[i]? else if i=p then some x else xs[i-1]?:=by
 obtain ⟨l⟩:=xs
 simp only [List.size_toArray] at hp
 unfold SetTable.insertAt
 simp only [List.extract_toArray,List.push_toArray,List.append_toArray,List.getElem?_toArray,List.size_toArray]
 simp only [List.extract_eq_drop_take,Nat.sub_zero,List.drop_zero]
 by_cases h1:i<p
 ·rw [if_pos h1,List.append_assoc,List.getElem?_append_left (by rw [List.length_take];omega),List.getElem?_take,if_pos h1]
 ·rw [if_neg h1,List.append_assoc,List.getElem?_append_right (by rw [List.length_take];omega),List.length_take,Nat.min_eq_left hp]
  by_cases h2:i=p
  ·subst h2;rw [if_pos rfl];simp
  ·rw [if_neg h2]
   obtain ⟨k,hk⟩:∃ k,i-p=k+1:=⟨i-p-1,by omega⟩
   rw [hk]
   simp only [List.singleton_append,List.getElem?_cons_succ]
   rw [List.getElem?_take]
   by_cases h3:k<l.length-p
   ·rw [if_pos h3,List.getElem?_drop];congr 1;omega
   ·rw [if_neg h3,eq_comm,List.getElem?_eq_none_iff];omega
theorem qg.ins {xs:Array Nat} {j:Nat} (R:qg xs) (hj:(xs[SetTable.below xs j]? == some j)=false):qg (SetTable.insertAt xs (SetTable.below xs j) j):=by
 obtain ⟨b1,b2,b3⟩:=rD (j:=j) R
 have b4:∀ i a,SetTable.below xs j≤i->xs[i]?=some a->j<a:=fun i a h e=>by
  rcases Nat.lt_or_eq_of_le (b3 i a h e) with z|z
  ·exact z
  ·subst z
   rcases Nat.lt_or_eq_of_le h with q|q
   ·have hb:SetTable.below xs j<xs.size:=Nat.lt_of_lt_of_le q (Nat.le_of_lt (Array.getElem?_eq_some_iff.mp e).1)
    have:=R _ i _ _ q (Array.getElem?_eq_getElem hb) e
    have:=b3 _ _ (Nat.le_refl _) (Array.getElem?_eq_getElem hb)
    omega
   ·rw [← q] at e
    rw [e] at hj
    simp at hj
 intro i k a b hik e1 e2
 rw [wW b1] at e1 e2
 by_cases c1:i<SetTable.below xs j
 ·rw [if_pos c1] at e1
  by_cases c2:k<SetTable.below xs j
  ·rw [if_pos c2] at e2;exact R i k a b hik e1 e2
  ·rw [if_neg c2] at e2
   by_cases c3:k=SetTable.below xs j
   ·rw [if_pos c3] at e2;cases e2;exact b2 i a c1 e1
   ·rw [if_neg c3] at e2
    exact Nat.lt_trans (b2 i a c1 e1) (b4 _ b (by omega) e2)
 ·rw [if_neg c1] at e1
  rw [if_neg (by omega),if_neg (by omega)] at e2
  by_cases c3:i=SetTable.below xs j
  ·rw [if_pos c3] at e1;cases e1;exact b4 _ b (by omega) e2
  ·rw [if_neg c3] at e1
   exact R _ _ a b (by omega) e1 e2
theorem wB {l:List Nat} (h:l.Pairwise (·<·)):qg l.toArray:=fun i j a b hij e1 e2=>by
 rw [List.getElem?_toArray] at e1 e2
 obtain ⟨h1,rfl⟩:=List.getElem?_eq_some_iff.mp e1
 obtain ⟨h2,rfl⟩:=List.getElem?_eq_some_iff.mp e2
 exact List.pairwise_iff_getElem.mp h i j h1 h2 hij
structure oh (led:Bool) (t:SetTable):Prop where
 rise:qg t.place
 dum:t.dummies=#[]
 led:t.led=led
theorem oh.fresh:oh b (.fresh 0 0 b):=⟨fun i j a c _ e=>by simp [SetTable.fresh] at e,rfl,rfl⟩
theorem oh.standIn (g:oh b t):oh b (t.standIn n):=
 ⟨fun i j a c h e1 e2=>by
  unfold SetTable.standIn at e1 e2
  dsimp only at e1 e2
  obtain ⟨_,rfl⟩:=Array.getElem?_eq_some_iff.mp e1
  obtain ⟨_,rfl⟩:=Array.getElem?_eq_some_iff.mp e2
  simpa using h,rfl,g.led⟩
theorem oh.orStandIn (g:oh b t):oh b (t.orStandIn n):=by
 unfold SetTable.orStandIn
 split
 ·exact g
 ·exact g.standIn
theorem oh.has (g:oh b t) (j:Nat):SetTable.has t.dummies j=false:=by rw [g.dum];simp [SetTable.has]
theorem oh.probe (g:oh b t):∀ (f:Nat) (p:SetTable.Probe) (j:Nat) (d:Option Nat),p.dummy=none->SetTable.probe.go t ha h f p=some (.empty j d)->d=none/\(t.place[SetTable.below t.place j]? == some j)=false
 |0,p,j,d,hp,e=>by simp [SetTable.probe.go] at e
 | f+1,p,j,d,hp,e=>by
   have adv:(t.advance p).dummy=none:=by unfold SetTable.advance;split <;> exact hp
   unfold SetTable.probe.go at e
   have sl:t.slot p.j=if t.place[SetTable.below t.place p.j]? == some p.j then .live (SetTable.below t.place p.j) else .empty:=by
    unfold SetTable.slot
    rw [g.has]
    rfl
   by_cases q:(t.place[SetTable.below t.place p.j]? == some p.j)=true
   ·rw [if_pos q] at sl
    rw [sl] at e
    dsimp only at e
    split at e
    ·cases e
    ·exact g.probe f _ j d adv e
   ·rw [if_neg q] at sl
    rw [sl] at e
    cases e
    exact ⟨hp,by simpa using q⟩
theorem oh.layNew (g:oh b t) (es:Array (Int×Value)) (h:Int) (x:Value):oh b (layNew t es h x).2.1:=by
 unfold PySem.layNew
 split
 ·rename_i sl wd e
  refine oh.orStandIn ?_
  have:(t.place[SetTable.below t.place sl]? == some sl)=false:=by
   unfold SetTable.freeSlot at e
   split at e
   ·rename_i j d ep
    obtain ⟨rfl,q⟩:=g.probe _ _ j d rfl ep
    cases e
    exact q
   ·cases e
  refine ⟨g.rise.ins this,?_,g.led⟩
  show (if SetTable.has t.dummies sl then _ else t.dummies)=#[]
  rw [g.has,if_neg (by simp),g.dum]
 ·exact g.standIn
theorem oh.relayAll (g:oh b t) (es:Array (Int×Value)) (n:Nat):oh b (relayAll t es n).2.1:=by
 unfold PySem.relayAll
 split
 ·rename_i t' od e
  dsimp only
  split
  ·unfold SetTable.relaid SetTable.laid at e
   rw [Option.bind_eq_bind,Option.bind_eq_some_iff] at e
   obtain ⟨ow,_,e⟩:=e
   cases e
   refine ⟨wB ?_,rfl,g.led⟩
   rw [List.pairwise_map,List.pairwise_filterMap]
   refine List.Pairwise.imp ?_ List.pairwise_lt_range
   intro a c hac x hx y hy
   obtain ⟨_,_,rfl⟩:=Option.map_eq_some_iff.mp hx
   obtain ⟨_,_,rfl⟩:=Option.map_eq_some_iff.mp hy
   exact hac
  ·exact g.standIn
 ·exact g.standIn
abbrev qY (w:World):Bool:=w.params.followText "set-order"
def ju (P:Program) (w:World) (h:Heap) (a:Addr) (ns:List Int):Prop:=
 ∃ o es ep t,h.get? a=some o/\o.ExactSet/\o.data=.set es ep t/\ElemsOf (intKind P w) es.toList/\(es.toList.map fun e=>numOf e.2).Perm ns/\es.size<scanBound/\t.fits es.size=true/\oh (!qY w) t
def adj (ns:List Int) (k:Int):List Int:=if k∈ns then ns else ns++[k]
def dd (ns:List Int):List Int:=ns.foldl adj []
theorem CZ (ns:List Int) (k:Int):dd (ns++[k])=adj (dd ns) k:=by unfold dd;rw [List.foldl_append];rfl
theorem qO:∀ (ns ms:List Int) (x:Int),x∈ns.foldl adj ms↔x∈ms∨x∈ns
 |[],ms,x=>by simp
 | n::r,ms,x=>by
   rw [List.foldl_cons,qO r _ x]
   unfold adj
   split <;> simp only [List.mem_append,List.mem_cons,List.mem_singleton,List.not_mem_nil,or_false]
   ·rename_i h
    constructor
    ·rintro (a|a)
     ·exact .inl a
     ·exact .inr (.inr a)
    ·rintro (a|rfl|a)
     ·exact .inl a
     ·exact .inl h
     ·exact .inr a
   ·rw [or_assoc]
theorem nU:∀ (ns ms:List Int),ms.Nodup->(ns.foldl adj ms).Nodup
 |[],ms,h=>h
 | n::r,ms,h=>by
   rw [List.foldl_cons]
   refine nU r _ ?_
   unfold adj
   split
   ·exact h
   ·rename_i q
    rw [List.nodup_append]
    exact ⟨h,by simp,fun a ha b hb=>by simp at hb;subst hb;exact fun e=>q (e ▸ ha)⟩
theorem rT:∀ (ns ms:List Int),(ns.foldl adj ms).length≤ms.length+ns.length
 |[],ms=>Nat.le_refl _
 | n::r,ms=>by
   rw [List.foldl_cons]
   refine Nat.le_trans (rT r _) ?_
   unfold adj
   split <;> simp <;> omega
theorem La:x∈dd ns↔x∈ns:=by unfold dd;rw [qO];simp
theorem Aq (ns:List Int):(dd ns).Nodup:=nU ns [] .nil
theorem yC (ns:List Int):(dd ns).length≤ns.length:=by have:=rT ns [];simpa [dd] using this
theorem yV (h:(intKind P w).is k v=true):numOf v=k:=by obtain ⟨t,rfl⟩:=Value.isInt_shape h;rfl
theorem ju.at (g:ju P w h a ns) (e:∀ o,h.get? a=some o->h'.get? a=some o):ju P w h' a ns:=
 let ⟨o,es,ep,t,ho,r⟩:=g;⟨o,es,ep,t,e _ ho,r⟩
theorem vU {h:Heap} {o:Obj} (ho:h.get? a=some o) (hd:o.data=.set es ep t) :
 (h.update a (Obj.putSet es' t')).get? a=some { o with data:=.set es' (ep+1) t' }:=by
 have e:=Heap.get?_update_self (Obj.putSet es' t') ho (by rw [putSet_of es' t' hd];rfl)
 rwa [putSet_of es' t' hd] at e
theorem Nz {s:Shared} {ns:List Int} {Q:Bool->Shared->Prop} (hS:ju P w s.heap a ns) (hr:ns.length+1<scanBound) (h:∀ b h',Heap.SameBut a s.heap h'->ju P w h' a (adj ns k)->Q b { s with heap:=h' }) :
 wpAny (model P w) A (setAddHashed a (.int k tk) ((intKind P w).hash k)) Q E s:=by
 obtain ⟨o,es,ep,t,ho,hex,hd,hel,hp,hb,hf,tg⟩:=hS
 have hkey:=intKind_is P w k tk
 have hsz:es.size=ns.length:=by rw [← Array.length_toList,← hp.length_eq,List.length_map]
 unfold setAddHashed setAddHashedIn
 refine wpAny_holding (wpAny_bind (wpAny_setState_of ho hd hf ?_))
 dsimp only
 rw [byScan_of rfl hb hel]
 simp only [↓reduceIte]
 unfold setAddByScan
 refine wpAny_bind (wpAny_bind (wpAny_rule (wpAny_bind (wpAny_setScan_of hkey ho hd hf hel ?_))))
 cases hr':List.findIdx? (fun e=>(intKind P w).is k e.2) es.toList with
 | some j=>
   obtain ⟨hj,hpj,_⟩:=List.findIdx?_eq_some_iff_getElem.mp hr'
   have hm:k∈ns:=hp.mem_iff.mp (List.mem_map.mpr ⟨_,List.getElem_mem hj,yV hpj⟩)
   dsimp only
   refine wpAny_pure (wpAny_pure ?_)
   exact h false s.heap (Heap.SameBut.refl a s.heap) (by unfold adj;rw [if_pos hm];exact ⟨o,es,ep,t,ho,hex,hd,hel,hp,hb,hf,tg⟩)
 | none=>
   have hm:k∉ns:=fun hk=>by
    obtain ⟨e,he,hn⟩:=List.mem_map.mp (hp.mem_iff.mpr hk)
    obtain ⟨⟨k',hk',_⟩,_⟩:=hel e he
    have e1:=yV hk'
    have e2:=List.findIdx?_eq_none_iff.mp hr' e he
    rw [hn] at e1
    rw [e1,hk'] at e2
    cases e2
   have gw:∀ (b:Bool) {s₁:Shared} {Q':Unit->Shared->Prop},Q' () s₁->wpAny (model P w) A (match b with|true=>rule "set.scan.the-table-gave-way" | false=>pure ()) Q' E s₁:=
    fun b s₁ Q' q=>by cases b;exact wpAny_pure q;exact wpAny_rule q
   dsimp only
   have l1:=layNew_perm t es ((intKind P w).hash k) (.int k tk)
   have l2:=layNew_fits t es ((intKind P w).hash k) (.int k tk)
   have l3:=tg.layNew es ((intKind P w).hash k) (.int k tk)
   generalize layNew t es ((intKind P w).hash k) (.int k tk)=L at l1 l2 l3 ⊢
   obtain ⟨es1,t1,wd,gv⟩:=L
   dsimp only at l1 l2 l3 ⊢
   rw [Array.toList_push] at l1
   have e1:ElemsOf (intKind P w) es1.toList:=(hel.push hkey rfl).perm l1
   have e2:(es1.toList.map fun e=>numOf e.2).Perm (adj ns k):=by
    unfold adj
    rw [if_neg hm]
    refine (l1.map _).trans ?_
    rw [List.map_append]
    exact hp.append (.refl _)
   have e3:es1.size<scanBound:=by rw [← Array.length_toList,l1.length_eq,List.length_append,Array.length_toList,hsz];exact hr
   refine wpAny_bind (gw _ ?_)
   have tail:wpAny (model P w) A (do
    storeSet a es1 t1
    if (!wd && t1.tooFull)=true then do
        (match (relayAll t1 es1 (SetTable.grown es1.size)).2.2 with|true=>rule "set.scan.the-table-gave-way" | false=>pure ())
        storeSet a (relayAll t1 es1 (SetTable.grown es1.size)).1 (relayAll t1 es1 (SetTable.grown es1.size)).2.1
        pure (some true)
     else pure (some true)) (fun r s'=>r=some true/\Q true s') E s:=by
    refine wpAny_bind (wpAny_storeSet_of ho hd ?_ (fits_of_scanBound e3))
    have g1:=vU (es':=es1) (t':=t1) ho hd
    have b1:=Heap.SameBut.update s.heap a (Obj.putSet es1 t1)
    split
    ·have r1:=relayAll_perm t1 es1 (SetTable.grown es1.size)
     have r2:=relayAll_fits t1 es1 (SetTable.grown es1.size)
     have r3:=l3.relayAll es1 (SetTable.grown es1.size)
     generalize relayAll t1 es1 (SetTable.grown es1.size)=L at r1 r2 r3 ⊢
     obtain ⟨es2,t2,gv2⟩:=L
     dsimp only at r1 r2 r3 ⊢
     have z:es2.size=es1.size:=by rw [← Array.length_toList,r1.length_eq,Array.length_toList]
     refine wpAny_bind (gw _ ?_)
     refine wpAny_bind (wpAny_storeSet_of g1 rfl ?_ (fits_of_scanBound (by rw [z];exact e3)))
     exact wpAny_pure ⟨rfl,h true _ (b1.trans (Heap.SameBut.update _ a _)) ⟨_,es2,_,t2,vU g1 rfl,hex,rfl,e1.perm r1,(r1.map _).trans e2,by rw [z];exact e3,r2,r3⟩⟩
    ·exact wpAny_pure ⟨rfl,h true _ b1 ⟨_,es1,_,t1,g1,hex,rfl,e1,e2,e3,l2,l3⟩⟩
   have fin:∀ s',(fun r s'=>r=some true/\Q true s') (some true) s'->wpAny (model P w) A (pure true) Q E s':=fun s' q=>wpAny_pure q.2
   split
   ·refine wpAny_bind ?_
    rw [hashByValue_scannable 8 rfl]
    refine wpAny_pure ?_
    refine wpAny_mono tail (fun r s' q=>?_) fun _ _ e=>e
    obtain ⟨rfl,q⟩:=q
    exact wpAny_pure q
   ·refine wpAny_bind (wpAny_pure ?_)
    simp only [↓reduceIte]
    refine wpAny_mono tail (fun r s' q=>?_) fun _ _ e=>e
    obtain ⟨rfl,q⟩:=q
    exact wpAny_pure q
abbrev Dd (w:World):Obj:={ cls:=.type "set",dict:=none,data:=.set #[] 0 (.fresh 0 0 (!qY w)) }
theorem Jr (e:h.get? a=some (Dd w)):ju P w h a []:=
 ⟨_,#[],0,_,e,⟨rfl,rfl,rfl⟩,rfl,fun e he=>by simp at he,.refl _,by unfold scanBound;decide,by rfl,oh.fresh⟩
theorem dH:Slot "set_iterator" "__next__" "set_iterator.__next__" :=
 Slot.of (owner:="set_iterator") (n:="__next__") (by rw [typeLookup_type,builtinLookup_eq_fast];kernel_rfl) (by ext) (by ext) (by ext) (by first|exact .inl (by ext)|exact .inr (by ext)) (by rw [isSubtype_type];kernel_rfl)
theorem jg:entryFor table "set_iterator.__next__" = some Builtin.«set_iterator.__next__»:=entryFor_of_tree (by kernel_rfl)
theorem kO (a:Value):argsOk "set_iterator.__next__" ⟨[a],[]⟩:=by unfold argsOk;kernel_rfl
theorem oA:entryFor table "set.__iter__" = some Builtin.«frozenset.__iter__»:=entryFor_alias (id':="frozenset.__iter__") (by kernel_rfl) rfl (by ext) (by kernel_rfl)
abbrev Em (f:Value) (i:Nat) (a:Addr) (n ep:Nat):Obj:={ cls:=.type "set_iterator",data:=.fields #[f,.int i 0,.ref a,.int n 0,.int ep 0] }
theorem Qk {s:Shared} {o:Obj} {es:Array (Int×Value)} {t:SetTable} {sl nx:Nat} {x:Value} {Q:Option Value->Shared->Prop} (hI:s.heap.get? I=some (Em (.int sl 0) i a es.size ep)) (ho:s.heap.get? a=some o) (hd:o.data=.set es ep t) (hf:t.fits es.size=true)
 (hN:∀ {A:Around} {E:Value->Shared->Prop} (Q':Option (Value×Nat)->Shared->Prop),Q' (some (x,nx)) s->wpAny (model P w) A (setNext a sl i ep) Q' E s)
 (hQ:∀ h',h'.get? I=some (Em (.int nx 0) (i+1) a es.size ep)->Heap.SameBut I s.heap h'->Q (some x) { s with heap:=h' }):wpAny (model P w) A (pyNext (.ref I)) Q E s:=by
 have hT:s.TypeIs (.ref I) "set_iterator":=⟨_,hI,rfl⟩
 unfold pyNext
 refine wpAny_bind (wpAny_attempt (wpAny_callSpecial?_slot (name:=Str.ofString "__next__") hT dH (wpAny_call_entry dH hT jg ?_ (kO _))))
 unfold Builtin.«set_iterator.__next__»
 refine wpAny_bind (wpAny_pure ?_)
 refine wpAny_bind (wpAny_fieldsOf hI rfl ?_)
 dsimp only
 refine wpAny_bind (m:=setEntries a) (wpAny_setEntries_of ho hd hf ?_)
 rw [if_neg (by simp)]
 refine wpAny_bind (hN _ ?_)
 dsimp only
 refine wpAny_bind (wpAny_setField hI rfl (by simp) ?_)
 have g1:=Heap.get?_update_self (Obj.mapFields fun fs=>fs.set! 0 (rawInt nx)) hI rfl
 refine wpAny_bind (wpAny_setField g1 rfl (by simp) ?_)
 have g2:=Heap.get?_update_self (Obj.mapFields fun fs=>fs.set! 1 (rawInt ((i:Int)+1))) g1 rfl
 refine wpAny_pure ⟨x,rfl,wpAny_pure (hQ _ g2 ((Heap.SameBut.update ..).trans (Heap.SameBut.update ..)))⟩
theorem Q8 {A:Around} {s:Shared} {o:Obj} {es:Array (Int×Value)} {t:SetTable} {sl:Nat} {Q:Option Value->Shared->Prop} (hh:A.handled=none) (hI:s.heap.get? I=some (Em (.int sl 0) i a es.size ep)) (ho:s.heap.get? a=some o) (hd:o.data=.set es ep t) (hf:t.fits es.size=true)
 (hN:∀ {A:Around} {E:Value->Shared->Prop} (Q':Option (Value×Nat)->Shared->Prop),Q' none s->wpAny (model P w) A (setNext a sl i ep) Q' E s)
 (hQ:∀ h',Heap.ExtBut I s.heap h'->Q none { s with heap:=h' }):wpAny (model P w) A (pyNext (.ref I)) Q E s:=by
 have hT:s.TypeIs (.ref I) "set_iterator":=⟨_,hI,rfl⟩
 unfold pyNext
 refine wpAny_bind (wpAny_attempt (wpAny_callSpecial?_slot (name:=Str.ofString "__next__") hT dH (wpAny_call_entry dH hT jg ?_ (kO _))))
 unfold Builtin.«set_iterator.__next__»
 refine wpAny_bind (wpAny_pure ?_)
 refine wpAny_bind (wpAny_fieldsOf hI rfl ?_)
 dsimp only
 refine wpAny_bind (m:=setEntries a) (wpAny_setEntries_of ho hd hf ?_)
 rw [if_neg (by simp)]
 refine wpAny_bind (hN _ ?_)
 dsimp only
 refine wpAny_bind (wpAny_setField hI rfl (by simp) ?_)
 refine wpAny_bind ?_
 simp only [newExc,newTuple]
 refine wpAny_bind (wpAny_newObj_type ?_ (by size_fits))
 refine wpAny_bind (m:=firstArgMember _ _) (wpAny_of_eq (a:=Value.none) (by first|rfl|(simp only [firstArgMember];rfl)) ?_)
 refine wpAny_newObj_type ?_ (by size_fits)
 simp only [raiseNew]
 refine wpAny_bind (wpAny_handled ?_)
 rw [show A.in1.handled=none from hh]
 refine wpAny_bind (wpAny_pure (wpAny_throw ?_))
 refine wpAny_bind (wpAny_isInstance (T:="StopIteration") (b:=true) ⟨_,Heap.get?_push_size _ rfl,rfl⟩ isSubtype_stop ?_)
 exact wpAny_pure (hQ _ (((Heap.SameBut.update ..).extBut.push _).push _))
theorem PB {s:Shared} {o:Obj} {es:Array (Int×Value)} {t:SetTable} {T:Addr} {ps:Array Value} {c p:Nat} {x:Value} {h0:Int} {Q:Option Value->Shared->Prop} (hI:s.heap.get? I=some (Em (.ref T) i a es.size ep)) (ho:s.heap.get? a=some o) (hd:o.data=.set es ep t) (hf:t.fits es.size=true)
 {oT:Obj} (hT':s.heap.get? T=some oT) (hTd:oT.data=.seq ps c) (hp:ps[i]?=some (.int p 0)) (hx:es[p]?=some (h0,x))
 (hQ:∀ h',h'.get? I=some (Em (.ref T) (i+1) a es.size ep)->Heap.SameBut I s.heap h'->Q (some x) { s with heap:=h' }):wpAny (model P w) A (pyNext (.ref I)) Q E s:=by
 have hT:s.TypeIs (.ref I) "set_iterator":=⟨_,hI,rfl⟩
 unfold pyNext
 refine wpAny_bind (wpAny_attempt (wpAny_callSpecial?_slot (name:=Str.ofString "__next__") hT dH (wpAny_call_entry dH hT jg ?_ (kO _))))
 unfold Builtin.«set_iterator.__next__»
 refine wpAny_bind (wpAny_pure ?_)
 refine wpAny_bind (wpAny_fieldsOf hI rfl ?_)
 dsimp only
 refine wpAny_bind (m:=setEntries a) (wpAny_setEntries_of ho hd hf ?_)
 rw [if_neg (by simp)]
 refine wpAny_bind (wpAny_seqItems hT' hTd ?_)
 dsimp only
 rw [Int.toNat_natCast,hp]
 dsimp only
 unfold setNextDrawn
 refine wpAny_bind (wpAny_bind (wpAny_setState_of ho hd hf ?_))
 dsimp only
 rw [if_neg (by simp),Int.toNat_natCast,hx]
 refine wpAny_pure ?_
 refine wpAny_bind (wpAny_setField hI rfl (by simp) ?_)
 have g2:=Heap.get?_update_self (Obj.mapFields fun fs=>fs.set! 1 (rawInt ((i:Int)+1))) hI rfl
 exact wpAny_pure ⟨x,rfl,wpAny_pure (hQ _ g2 (Heap.SameBut.update ..))⟩
theorem K1 (hh:A.handled=none) (hI:s.heap.get? I=some (Em (.ref T) i a es.size ep)) (ho:s.heap.get? a=some o) (hd:o.data=.set es ep t) (hf:t.fits es.size=true)
 (hT':s.heap.get? T=some oT) (hTd:oT.data=.seq ps c) (hp:ps[i]?=none) (hQ:∀ h',Heap.ExtBut I s.heap h'->Q none { s with heap:=h' }):wpAny (model P w) A (pyNext (.ref I)) Q E s:=by
  have hT:s.TypeIs (.ref I) "set_iterator":=⟨_,hI,rfl⟩
  unfold pyNext
  refine wpAny_bind (wpAny_attempt (wpAny_callSpecial?_slot (name:=Str.ofString "__next__") hT dH (wpAny_call_entry dH hT jg ?_ (kO _))))
  unfold Builtin.«set_iterator.__next__»
  refine wpAny_bind (wpAny_pure ?_)
  refine wpAny_bind (wpAny_fieldsOf hI rfl ?_)
  dsimp only
  refine wpAny_bind (m:=setEntries a) (wpAny_setEntries_of ho hd hf ?_)
  rw [if_neg (by simp)]
  refine wpAny_bind (wpAny_seqItems hT' hTd ?_)
  dsimp only
  rw [Int.toNat_natCast,hp]
  dsimp only
  refine wpAny_bind (wpAny_setField hI rfl (by simp) ?_)
  have g1:=Heap.get?_update_self (Obj.mapFields fun fs=>fs.set! 0 (rawInt 0)) hI rfl
  refine wpAny_bind (wpAny_setField g1 rfl (by simp) ?_)
  refine wpAny_bind ?_
  simp only [newExc,newTuple]
  refine wpAny_bind (wpAny_newObj_type ?_ (by size_fits))
  refine wpAny_bind (m:=firstArgMember _ _) (wpAny_of_eq (a:=Value.none) (by first|rfl|(simp only [firstArgMember];rfl)) ?_)
  refine wpAny_newObj_type ?_ (by size_fits)
  simp only [raiseNew]
  refine wpAny_bind (wpAny_handled ?_)
  rw [show A.in1.handled=none from hh]
  refine wpAny_bind (wpAny_pure (wpAny_throw ?_))
  refine wpAny_bind (wpAny_isInstance (T:="StopIteration") (b:=true) ⟨_,Heap.get?_push_size _ rfl,rfl⟩ isSubtype_stop ?_)
  exact wpAny_pure (hQ _ ((((Heap.SameBut.update ..).trans (Heap.SameBut.update ..)).extBut.push _).push _))
def slotAt (p:Array Nat):Nat->Nat
 |0=>0
 |i+1=>p.getD i 0+1
theorem sY (R:qg p) (hi:i≤p.size):SetTable.below p (slotAt p i)=i:=by
 obtain ⟨b1,b2,b3⟩:=rD (j:=slotAt p i) R
 have gd:∀ k,k<p.size->p[k]?=some (p.getD k 0):=fun k hk=>by rw [Array.getD_eq_getD_getElem?,Array.getElem?_eq_getElem hk];rfl
 cases i with
 | zero=>
   rcases Nat.eq_zero_or_pos (SetTable.below p (slotAt p 0)) with e|e
   ·exact e
   ·exact absurd (b2 0 _ e (gd 0 (by omega))) (Nat.not_lt_zero _)
 | succ i=>
   rcases Nat.lt_trichotomy (SetTable.below p (slotAt p (i+1))) (i+1) with e|e|e
   ·have h1:=b3 i _ (by omega) (gd i (by omega))
    simp only [slotAt] at h1
    omega
   ·exact e
   ·have h1:=b2 (i+1) _ e (gd (i+1) (by omega))
    have h2:=R i (i+1) _ _ (by omega) (gd i (by omega)) (gd (i+1) (by omega))
    simp only [slotAt] at h1
    omega
theorem jO {α:Type}:∀ (l:List α) (i:Nat) (h:i<l.length),(l[i]::l.eraseIdx i).Perm l
 |x::l,0,h=>.refl _
 | x::l,i+1,h=>by
   rw [List.eraseIdx_cons_succ,List.getElem_cons_succ]
   exact (List.Perm.swap _ _ _).trans ((jO l i (by simpa using h)).cons _)
theorem vW {α:Type} (f:Nat->Nat):∀ (n k:Nat) (l:List α) (out:Array α),l.length=n->(pickOrder.go f n k l out).toList.Perm (out.toList++l)
 | 0,k,l,out,h=>by
   obtain rfl:=List.length_eq_zero_iff.mp h
   rw [List.append_nil]
   exact .refl _
 | n+1,k,l,out,h=>by
   have hm:f k % l.length<l.length:=Nat.mod_lt _ (by omega)
   unfold pickOrder.go
   rw [List.getElem?_eq_getElem hm]
   refine (vW f n (k+1) _ _ (by rw [List.length_eraseIdx,if_pos hm,h];rfl)).trans ?_
   rw [Array.toList_push,List.append_assoc]
   exact (List.Perm.refl _).append (jO _ _ hm)
theorem wO {α:Type} (f:Nat->Nat) (xs:Array α):(pickOrder f xs).toList.Perm xs.toList:=by
 unfold pickOrder
 exact vW f _ 0 _ _ (by simp)
theorem tK (hn:n≠0) (h:∀ i d,i<n->Q i { s with drawn:=d }):wpAny (model P w) A (choose src n) Q E s:=by
 intro Γ p hΓ
 unfold choose
 rw [Sem.wp_choose]
 exact ⟨hn,by rw [Sem.wp_pure];exact h _ _ (Nat.mod_lt _ (Nat.pos_of_ne_zero hn))⟩
theorem o_ {α:Type}:∀ (n:Nat) (xs:List α) (s:Shared) {Q:List α->Shared->Prop},xs.length≤n->(∀ ys d,ys.Perm xs->Q ys { s with drawn:=d })->wpAny (model P w) A (drawOrder n xs) Q E s
 | 0,xs,s,Q,hl,h=>by
   obtain rfl:=List.length_eq_zero_iff.mp (Nat.le_zero.mp hl)
   exact wpAny_pure (h [] s.drawn (.refl _))
 |n+1,[],s,Q,hl,h=>wpAny_pure (h [] s.drawn (.refl _))
 | n+1,x::xs,s,Q,hl,h=>by
   unfold drawOrder
   refine wpAny_bind (tK (by simp) fun i d hi=>?_)
   rw [List.getElem?_eq_getElem hi]
   dsimp only
   refine wpAny_bind (o_ n _ _ (by rw [List.length_eraseIdx,if_pos hi];simp only [List.length_cons] at hl ⊢;omega) fun ys d' hp=>?_)
   exact wpAny_pure (h _ d' ((hp.cons _).trans (jO _ _ hi)))
theorem g_ (h:Q (qY w) s):wpAny (model P w) A setsByText Q E s:=by
 unfold setsByText
 exact wpAny_bind (wpAny_askSetting (wpAny_pure h))
theorem Ph (ho:s.heap.get? a=some o) (hd:o.data=.set es ep t) (hf:t.fits es.size=true) (R:qg t.place) (hb:qY w=false) (nd:(!t.plain && decide (es.size > 1))=false) (hl:t.led=true) (hi:i≤es.size)
 (h:Q (es[i]?.map fun e=>(e.2,slotAt t.place (i+1))) s):wpAny (model P w) A (setNext a (slotAt t.place i) g ep) Q E s:=by
 have hz:t.place.size=es.size:=by
  simp only [SetTable.fits,Bool.and_eq_true,beq_iff_eq,decide_eq_true_eq] at hf
  exact hf.1
 unfold setNext
 refine wpAny_bind (wpAny_setState_of ho hd hf ?_)
 dsimp only
 refine wpAny_bind (g_ ?_)
 rw [if_neg (by rw [hb];simp)]
 split
 ·rename_i q
  exact absurd (show (!t.plain && decide (es.size > 1))=true from q) (by rw [nd];simp)
 ·refine wpAny_bind (m:=(if (!t.led && !es.isEmpty)=true then unsupported "set:maker-not-led" else pure ())) ?_
  rw [if_neg (by rw [hl];simp)]
  refine wpAny_pure ?_
  rw [sY R (by omega)]
  refine wpAny_pure ?_
  by_cases q:i<es.size
  ·rw [Array.getElem?_eq_getElem q] at h ⊢
   rw [Array.getElem?_eq_getElem (show i<t.place.size by omega)]
   have e:slotAt t.place (i+1)=t.place[i]+1:=by
    show t.place.getD i 0+1=_
    rw [Array.getD_eq_getD_getElem?,Array.getElem?_eq_getElem (show i<t.place.size by omega)]
    rfl
   rw [e] at h
   exact h
  ·rw [Array.getElem?_eq_none (by omega)] at h ⊢
   exact h
theorem nextT (ho:s.heap.get? a=some o) (hd:o.data=.set es ep t) (hf:t.fits es.size=true) (hb:qY w=true)
 (h:Q ((pickOrder (w.params.setOrder a ep) es)[g]?.map fun e=>(e.2,sl)) s):wpAny (model P w) A (setNext a sl g ep) Q E s:=by
 unfold setNext
 refine wpAny_bind (wpAny_setState_of ho hd hf ?_)
 dsimp only
 refine wpAny_bind (g_ ?_)
 rw [if_pos (by rw [hb]),if_neg (by simp)]
 unfold setWalk
 refine wpAny_bind (wpAny_bind (wpAny_setState_of ho hd hf ?_))
 dsimp only
 refine wpAny_bind (g_ ?_)
 rw [if_pos (by rw [hb])]
 exact wpAny_bind (wpAny_askSetting (wpAny_pure (wpAny_pure h)))
theorem rE:Slot "set_iterator" "__iter__" "set_iterator.__iter__" :=
 Slot.of (owner:="set_iterator") (n:="__iter__") (by rw [typeLookup_type,builtinLookup_eq_fast];kernel_rfl) (by ext) (by ext) (by ext) (by first|exact .inl (by ext)|exact .inr (by ext)) (by rw [isSubtype_type];kernel_rfl)
theorem yc:entryFor table "set_iterator.__iter__" = some Builtin.«dict_keyiterator.__iter__»:=entryFor_alias (id':="dict_keyiterator.__iter__") (by kernel_rfl) rfl (by ext) (by kernel_rfl)
theorem yS (a:Value):argsOk "set_iterator.__iter__" ⟨[a],[]⟩:=by unfold argsOk;kernel_rfl
section
variable {P:Program} {w:World} {A:Around} {E:Value->Shared->Prop} {s:Shared}
theorem pK (hT:s.TypeIs (.ref I) "set_iterator") (h:Q (.ref I) s):wpAny (model P w) A (pyIter (.ref I)) Q E s:=by
 refine wpAny_pyIter_slot hT rE (wpAny_call_entry rE hT yc ?_ (yS _))
 exact wpAny_pure ⟨_,rfl,"set_iterator",_,hT,dH.lookup,h⟩
abbrev G_ (out:List (Int×Value)):Nat->Value->Prop:=fun i v=>out[i]?.map (·.2)=some v
theorem zO {I a:Addr} {o:Obj} {es:Array (Int×Value)} {ep:Nat} {t:SetTable} {out:List (Int×Value)} {sl:Nat->Nat} (hh:A.handled=none) (ne:a≠I) (hd:o.data=.set es ep t) (hf:t.fits es.size=true)
 (nx:∀ {A:Around} {E:Value->Shared->Prop} (i:Nat) (s:Shared) (Q:Option (Value×Nat)->Shared->Prop),i≤out.length->s.heap.get? a=some o->Q (out[i]?.map fun e=>(e.2,sl (i+1))) s->wpAny (model P w) A (setNext a (sl i) i ep) Q E s) :
 Walks P w A I [I,a] [I] out.length (G_ out) (fun i h=>h.get? I=some (Em (.int (sl i) 0) i a es.size ep)/\h.get? a=some o) where
 sub:=fun b q=>by simp at q;simp [q]
 frame:=fun _ _ _ st k=>⟨k I (by simp) _ st.1,k a (by simp) _ st.2⟩
 item:=fun i s Q E hi st q=>by
  refine Qk (x:=out[i].2) (nx:=sl (i+1)) st.1 st.2 hd hf (fun Q' z=>nx i s Q' (Nat.le_of_lt hi) st.2 (by rw [List.getElem?_eq_getElem hi];exact z)) fun h' e sb=>?_
  exact q _ h' s.toks (by simp [G_,hi]) ⟨e,by rw [sb.2 a ne];exact st.2⟩ fun b u hb eb=>by rw [sb.2 b (fun z=>hb (by simp [z]))];exact eb
 done:=fun s Q E st q=>Q8 hh st.1 st.2 hd hf (fun Q' z=>nx _ s Q' (Nat.le_refl _) st.2 (by rw [List.getElem?_eq_none (Nat.le_refl _)];exact z)) fun h' eb=>q h' s.toks fun b u hb e=>eb b u (fun z=>hb (by simp [z])) e
 self:=fun _ _ _ _ st q=>pK ⟨_,st.1,rfl⟩ q
theorem J0 {o oT:Obj} {es:Array (Int×Value)} {t:SetTable} {ps:List Nat} {out:List (Int×Value)} (hh:A.handled=none) (ne:a≠I) (neT:T≠I) (hd:o.data=.set es ep t) (hf:t.fits es.size=true)
 (hT:oT.data=.seq (ps.map fun i:Nat=>rawInt i).toArray c) (hz:out.length=ps.length) (hp:∀ i p:Nat,ps[i]?=some p->es[p]?=out[i]?) :
 Walks P w A I [I,a,T] [I] out.length (G_ out) (fun i h=>h.get? I=some (Em (.ref T) i a es.size ep)/\h.get? a=some o/\h.get? T=some oT) where
 sub:=fun b q=>by simp at q;simp [q]
 frame:=fun _ _ _ st k=>⟨k I (by simp) _ st.1,k a (by simp) _ st.2.1,k T (by simp) _ st.2.2⟩
 item:=fun i s Q E hi st q=>by
  have hi':i<ps.length:=by rw [← hz];exact hi
  refine PB (p:=ps[i]) (x:=out[i].2) (h0:=out[i].1) st.1 st.2.1 hd hf st.2.2 hT (by simp [hi',rawInt]) (by rw [hp i _ (List.getElem?_eq_getElem hi'),List.getElem?_eq_getElem hi]) fun h' e sb=>?_
  exact q _ h' s.toks (by simp [G_,hi]) ⟨e,by rw [sb.2 a ne];exact st.2.1,by rw [sb.2 T neT];exact st.2.2⟩ fun b u hb eb=>by rw [sb.2 b (fun z=>hb (by simp [z]))];exact eb
 done:=fun s Q E st q=>K1 hh st.1 st.2.1 hd hf st.2.2 hT (by simp [hz]) fun h' eb=>q h' s.toks fun b u hb e=>eb b u (fun z=>hb (by simp [z])) e
 self:=fun _ _ _ _ st q=>pK ⟨_,st.1,rfl⟩ q
theorem Jg {a:Addr} {ns:List Int} {Q:Value->Shared->Prop} (g:ju P w s.heap a ns)
 (h:∀ (s':Shared) (I:Addr) (fp:List Addr) (out:List (Int×Value)) (St:Nat->Heap->Prop),s'.os=s.os->s'.gens=s.gens->s'.toks=s.toks->(∀ b o,s.heap.get? b=some o->s'.heap.get? b=some o)->(∀ b∈fp,b<s'.heap.objs.size/\(s.heap.objs.size≤b∨b=a))->(∀ A:Around,A.handled=none->Walks P w A I fp [I] out.length (G_ out) St)->St 0 s'.heap->
  s.heap.objs.size≤I->(∀ e∈out,∃ k t,e.2=.int k t)->(out.map fun e=>numOf e.2).Perm ns->Q (.ref I) s'):wpAny (model P w) A (pyIter (.ref a)) Q E s:=by
 obtain ⟨o,es,ep,t,ho,hex,hd,hel,hp,hb,hf,tg⟩:=g
 have hT:s.TypeIs (.ref a) "set":=⟨o,ho,hex.1⟩
 have la:=Heap.lt_size ho
 have ia:∀ out:List (Int×Value),out.Perm es.toList->(∀ e∈out,∃ k t,e.2=.int k t)/\(out.map fun e=>numOf e.2).Perm ns:=fun out q=>
  ⟨fun e he=>by
   obtain ⟨⟨k,hk,_⟩,_⟩:=hel e (q.mem_iff.mp he)
   obtain ⟨t,e⟩:=Value.isInt_shape hk
   exact ⟨k,t,e⟩,(q.map _).trans hp⟩
 refine wpAny_pyIter_slot hT PySem.F.slot_set_iter (wpAny_call_entry PySem.F.slot_set_iter hT oA ?_ (PySem.F.args_set_iter_1 _))
 unfold Builtin.«frozenset.__iter__»
 refine wpAny_bind (m:=Builtin.Frozenset.slot0 "__iter__" _) (wpAny_of_eq (a:=a) rfl ?_)
 refine wpAny_bind (m:=Builtin.Frozenset.sizeOf a) (wpAny_bind (wpAny_setEntries_of ho hd hf (wpAny_pure ?_)))
 unfold setDrawn
 refine wpAny_bind (wpAny_bind (wpAny_setState_of ho hd hf ?_))
 dsimp only
 refine wpAny_bind (g_ ?_)
 refine wpAny_pure ?_
 split
 ·rename_i q
  refine wpAny_bind (o_ es.size (List.range es.size) _ (by simp) fun ys d hy=>?_)
  have hl:ys.length=es.size:=by rw [hy.length_eq,List.length_range]
  refine wpAny_bind (wpAny_newTuple ?_ (by rw [List.length_map,hl];exact fits_of_scanBound hb))
  have h1:(s.heap.push { cls:=.type "tuple",data:=.seq (ys.map fun i:Nat=>rawInt i).toArray }).get? s.heap.objs.size=some { cls:=.type "tuple",data:=.seq (ys.map fun i:Nat=>rawInt i).toArray }:=Heap.get?_push_size _ rfl
  have k1:=fun (b:Addr) (u:Obj) (e:s.heap.get? b=some u)=>Heap.get?_push_of_some { cls:=.type "tuple",data:=.seq (ys.map fun i:Nat=>rawInt i).toArray } e
  have z1:(s.heap.push { cls:=.type "tuple",data:=.seq (ys.map fun i:Nat=>rawInt i).toArray }).objs.size=s.heap.objs.size+1:=Heap.size_push ..
  generalize (s.heap.push { cls:=.type "tuple",data:=.seq (ys.map fun i:Nat=>rawInt i).toArray })=h2 at h1 k1 z1 ⊢
  refine wpAny_bind (wpAny_setEpoch_of (k1 _ _ ho) hd hf ?_)
  refine wpAny_bind (wpAny_newObj_type (wpAny_pure ⟨_,rfl,"set_iterator",_,⟨_,Heap.get?_push_size _ rfl,rfl⟩,dH.lookup,?_⟩))
  have hp2:(ys.map fun i=>(es[i]?).getD default).Perm es.toList:=by
   refine (hy.map _).trans (List.Perm.of_eq (List.ext_getElem (by simp) fun i q1 q2=>?_))
   have q3:i<es.size:=by simpa using q2
   simp [q3]
  obtain ⟨i1,i2⟩:=ia _ hp2
  refine h _ h2.objs.size [h2.objs.size,a,s.heap.objs.size] (ys.map fun i=>(es[i]?).getD default) _ rfl rfl rfl (fun b u e=>Heap.get?_push_of_some _ (k1 b u e)) ?_ (fun A' hh=>J0 (ps:=ys) hh (by rw [z1];exact Nat.ne_of_lt (Nat.lt_succ_of_lt la)) (by rw [z1];exact Nat.ne_of_lt (Nat.lt_succ_self _)) hd hf rfl (by simp) ?_) ⟨Heap.get?_push_size _ rfl,Heap.get?_push_of_some _ (k1 _ _ ho),Heap.get?_push_of_some _ h1⟩ (by rw [z1];exact Nat.le_succ _) i1 i2
  ·intro b hb
   rw [Heap.size_push,z1]
   simp only [List.mem_cons,List.not_mem_nil,or_false] at hb
   rcases hb with rfl|rfl|rfl
   ·exact ⟨by rw [z1];exact Nat.lt_succ_self _,.inl (by rw [z1];exact Nat.le_succ _)⟩
   ·exact ⟨Nat.lt_succ_of_lt (Nat.lt_succ_of_lt la),.inr rfl⟩
   ·exact ⟨Nat.lt_succ_of_lt (Nat.lt_succ_self _),.inl (Nat.le_refl _)⟩
  ·intro i p e
   rw [List.getElem?_map,e]
   have hm:p∈List.range es.size:=hy.mem_iff.mp (List.mem_of_getElem? e)
   have hp3:p<es.size:=List.mem_range.mp hm
   simp [hp3]
 ·rename_i q
  refine wpAny_bind (wpAny_pure ?_)
  refine wpAny_bind (wpAny_setEpoch_of ho hd hf ?_)
  refine wpAny_bind (wpAny_newObj_type (wpAny_pure ⟨_,rfl,"set_iterator",_,⟨_,Heap.get?_push_size _ rfl,rfl⟩,dH.lookup,?_⟩))
  have q':(!qY w && (!t.plain && decide (es.size > 1)))=false:=by simpa using (show ¬ (!qY w && (!t.plain && decide (es.size > 1)))=true from q)
  have fpk:∀ b∈[s.heap.objs.size,a],b<(s.heap.push (Em (rawInt 0) 0 a es.size ep)).objs.size/\(s.heap.objs.size≤b∨b=a):=fun b hb=>by
   rw [Heap.size_push]
   simp only [List.mem_cons,List.not_mem_nil,or_false] at hb
   rcases hb with rfl|rfl
   ·exact ⟨Nat.lt_succ_self _,.inl (Nat.le_refl _)⟩
   ·exact ⟨Nat.lt_succ_of_lt la,.inr rfl⟩
  cases hbt:qY w with
  | false=>
    rw [hbt] at q' tg
    obtain ⟨i1,i2⟩:=ia es.toList (.refl _)
    exact h _ s.heap.objs.size [s.heap.objs.size,a] es.toList _ rfl rfl rfl (fun b u e=>Heap.get?_push_of_some _ e) fpk
     (fun A' hh=>zO (sl:=slotAt t.place) hh (Nat.ne_of_lt la) hd hf fun i s1 Q1 hi e z=>Ph e hd hf tg.rise hbt (by simpa using q') tg.led (by simpa using hi) (by simpa using z))
     ⟨Heap.get?_push_size _ rfl,Heap.get?_push_of_some _ ho⟩ (Nat.le_refl _) i1 i2
  | true=>
    obtain ⟨i1,i2⟩:=ia _ (wO (w.params.setOrder a ep) es)
    exact h _ s.heap.objs.size [s.heap.objs.size,a] (pickOrder (w.params.setOrder a ep) es).toList _ rfl rfl rfl (fun b u e=>Heap.get?_push_of_some _ e) fpk
     (fun A' hh=>zO (sl:=fun _=>0) hh (Nat.ne_of_lt la) hd hf fun i s1 Q1 hi e z=>nextT e hd hf hbt (by simpa using z))
     ⟨Heap.get?_push_size _ rfl,Heap.get?_push_of_some _ ho⟩ (Nat.le_refl _) i1 i2
end
theorem Dy:typeLookup (.type "set") "__len__" = pure (some (.builtin "set.__len__")):=by rw [typeLookup_type,builtinLookup_eq_fast];kernel_rfl
theorem tG (hi:∀ e∈out,∃ k t,e.2=.int k t) (h:PySem.ItemsOf (G_ out) acc out.length):IntsAre acc.toList (out.map fun e=>numOf e.2):=by
 have e:acc.toList=out.map (·.2):=by
  refine List.ext_getElem (by rw [Array.length_toList,List.length_map];exact h.1) fun i q1 q2=>?_
  have q3:i<out.length:=by simpa using q2
  have q4:i<acc.size:=by simpa using q1
  have:=h.2 i acc[i] (by simp [q4])
  simp only [G_,List.getElem?_eq_getElem q3,Option.map_some,Option.some.injEq] at this
  simp [← this]
 rw [e]
 clear e h
 induction out with
 |nil=>exact .nil
 | cons x r ih=>
   obtain ⟨k,t,e⟩:=hi x (List.mem_cons_self ..)
   simp only [List.map_cons,e]
   exact .cons k t (ih fun y hy=>hi y (List.mem_cons_of_mem _ hy))
theorem xK (hh:A.handled=none) (g:ju P w s.heap a ns) (hz:ns.length≤1000)
 (hQ:∀ s' vs ms,s'.os=s.os->s'.gens=s.gens->s.heap.objs.size≤s'.heap.objs.size->(∀ b o,s.heap.get? b=some o->s'.heap.get? b=some o)->IntsAre vs ms->ms.Perm ns->Q vs s'):wpAny (model P w) A (collect (.ref a)) Q E s:=by
 have la:a<s.heap.objs.size:=by
  obtain ⟨o,es,ep,t,ho,_⟩:=g
  exact Heap.lt_size ho
 have ty:∀ {s':Shared},ju P w s'.heap a ns->s'.TypeIs (.ref a) "set":=fun g=>by
  obtain ⟨o,es,ep,t,ho,hex,_⟩:=g
  exact ⟨o,ho,hex.1⟩
 unfold collect
 refine wpAny_bind (wpAny_runValue (codeAny_builtin PySem.F.entry_proto_collect ?_))
 rw [Around.under_plainId PySem.F.plain_proto_collect _]
 refine wpAny_bind (m:=newList []) (wpAny_newObj_type ?_)
 refine wpAny_pure ⟨plainId_quiet PySem.F.plain_list_iadd _,codeAny_builtin PySem.F.entry_list_iadd ?_⟩
 rw [Around.under_plainId PySem.F.plain_list_iadd _]
 show wpAny _ A.in1 (Builtin.List.listExtendWith (.ref s.heap.objs.size) (.ref a) (.ref s.heap.objs.size)) _ _ _
 have hS₁:(s.heap.push { cls:=.type "list",data:=.seq ([]:List Value).toArray }).get? s.heap.objs.size=some { cls:=.type "list",data:=.seq ([]:List Value).toArray }:=Heap.get?_push_size _ rfl
 have k₁:∀ b o,s.heap.get? b=some o->(s.heap.push { cls:=.type "list",data:=.seq ([]:List Value).toArray }).get? b=some o:=fun b o e=>Heap.get?_push_of_some _ e
 have z₁:(s.heap.push { cls:=.type "list",data:=.seq ([]:List Value).toArray }).objs.size=s.heap.objs.size+1:=by rw [Heap.size_push]
 generalize (s.heap.push { cls:=.type "list",data:=.seq ([]:List Value).toArray })=H₁ at hS₁ k₁ z₁ ⊢
 have g₁:ju P w H₁ a ns:=g.at fun o e=>k₁ _ _ e
 unfold Builtin.List.listExtendWith
 refine wpAny_bind (wpAny_typeOf (s:={ s with heap:=H₁ }) (ty g₁) ?_)
 have h1:Builtin.List.listSameRef (.ref s.heap.objs.size) (.ref a)=false:=by simp [Builtin.List.listSameRef,Nat.ne_of_gt la]
 have h2:(Value.type "set" == Value.type "list")=false:=by decide
 have h3:(Value.type "set" == Value.type "tuple")=false:=by decide
 simp only [h1,h2,h3,Bool.or_false,Bool.false_eq_true,if_false]
 refine wpAny_bind (Jg (s:={ s with heap:=H₁ }) g₁ fun s₂ I fp out St e1 e2 e3 k₂ fpk W st lI hi hp=>?_)
 have g₂:ju P w s₂.heap a ns:=g₁.at fun o e=>k₂ _ _ e
 refine wpAny_bind (wpAny_holding ?_)
 unfold Builtin.List.listLengthHint
 refine wpAny_bind (wpAny_specialOf (ty g₂) Dy ?_)
 wp_delta
 refine wpAny_bind (wpAny_isInstance (b:=true) (ty g₂) (by rw [isSubtype_type];kernel_rfl) ?_)
 refine wpAny_bind (m:=typeOf (Value.ref a)) (wpAny_typeOf (ty g₂) ?_)
 refine wpAny_pure ?_
 show wpAny _ A.in1 (rule "list.extend.makes-room" >>= fun _=>Builtin.List.listTouch (.ref s.heap.objs.size) >>= fun _=>
  again (.builtin "list.extend.loop" ⟨[.ref s.heap.objs.size,.ref I,.ref s.heap.objs.size],[]⟩)) _ _ _
 refine wpAny_bind (wpAny_rule (wpAny_bind ?_))
 show wpAny _ A.in1 (updateSeq s.heap.objs.size (·.push .none) >>= fun _=>updateSeq s.heap.objs.size (·.pop)) _ _ _
 have hS₂:=k₂ _ _ hS₁
 refine wpAny_bind (wpAny_updateSeq hS₂ rfl ?_)
 have hS₃:=Heap.get?_update_self (Obj.mapSeq (·.push Value.none)) hS₂ rfl
 refine wpAny_updateSeq hS₃ rfl ?_
 have hS₄:=Heap.get?_update_self (Obj.mapSeq (·.pop)) hS₃ rfl
 have oth:∀ b o,b≠s.heap.objs.size->s₂.heap.get? b=some o->((s₂.heap.update s.heap.objs.size (Obj.mapSeq (·.push Value.none))).update s.heap.objs.size (Obj.mapSeq (·.pop))).get? b=some o:=
  fun b o hb e=>(Heap.get?_update_other _ _ (Ne.symm hb)).trans ((Heap.get?_update_other _ _ (Ne.symm hb)).trans e)
 dsimp only at hS₄ oth ⊢
 generalize ((s₂.heap.update s.heap.objs.size (Obj.mapSeq (·.push Value.none))).update s.heap.objs.size (Obj.mapSeq (·.pop)))=H₄ at hS₄ oth ⊢
 have nf:s.heap.objs.size∉fp:=fun q=>by
  rcases (fpk _ q).2 with z|z
  ·dsimp only at z
   rw [z₁] at z
   exact absurd z (Nat.not_le_of_lt (Nat.lt_succ_self _))
  ·exact absurd z (Nat.ne_of_gt la)
 have hlen:out.length≤1000:=by rw [← List.length_map (f:=fun e:Int×Value=>numOf e.2),hp.length_eq];exact hz
 have W1:=W A.in1 (by simp [hh])
 refine wpAny_pure ⟨plainId_quiet PySem.F.plain_extend_loop _,codeAny_extend_loopS W1.toS (Nat.le_trans hlen (by decide)) s.heap.objs.size nf (.ref s.heap.objs.size) _ 0 { s₂ with heap:=H₄ } #[] 2 rfl (Nat.zero_le _) (W1.frame 0 _ _ st fun b q o e=>oth b o (fun z=>nf (z ▸ q)) e) hS₄ (PySem.ItemsOf.nil _) fun s' acc c mv e it=>?_⟩
 dsimp only
 refine wpAny_bind (wpAny_load e ?_)
 refine wpAny_pure (hQ s' acc.toList _ (mv.os.trans e1) (Eq.trans mv.gens e2) (Nat.le_of_lt (Heap.lt_size e)) (fun b o eb=>?_) (tG hi it) hp)
 have lb:=Heap.lt_size eb
 refine mv.heap b o ?_ (oth _ _ (Nat.ne_of_lt lb) (k₂ _ _ (k₁ _ _ eb)))
 simp only [List.mem_cons,List.not_mem_nil,or_false,not_or]
 refine ⟨Nat.ne_of_lt lb,Nat.ne_of_lt (Nat.lt_of_lt_of_le lb (Nat.le_trans ?_ lI))⟩
 dsimp only
 rw [z₁]
 exact Nat.le_succ _
theorem zQ (hh:A.handled=none) (g:ju P w s.heap a ns) (hz:ns.length<64)
 (hQ:∀ s' l c vs ms,s'.os=s.os->s'.gens=s.gens->s.heap.objs.size≤l->(∀ b o,s.heap.get? b=some o->s'.heap.get? b=some o)->s'.heap.get? l=some (seqObj "list" vs c)->IntsAre vs.toList ms->ms.Perm ns->ms.Pairwise (·≤·)->Q (.ref l) s'):wpAny (model P w) A (call (.builtin "sorted") [.ref a]) Q E s:=by
 refine Calls.call_function_entry kind_sorted plain_sorted entry_sorted (args_sorted1 _) ?_
 unfold Builtin.«sorted»
 refine wpAny_bind (m:=checkCount "sorted" 1 1 _) (wpAny_pure ?_)
 refine wpAny_bind (xK (by simp [hh]) g (by omega) fun s₁ vs ms e1 e2 le k hi hp=>?_)
 have hl:vs.length<64:=by rw [hi.length,hp.length_eq];exact hz
 refine wpAny_bind (wpAny_newList ?_ (Nat.le_trans (Nat.le_of_lt hl) (by decide)))
 have hoL:(s₁.heap.push (seqObj "list" vs.toArray 0)).get? s₁.heap.objs.size=some (seqObj "list" vs.toArray 0):=Heap.get?_push_size _ rfl
 show wpAny _ _ _ _ _ { s₁ with heap:=s₁.heap.push (seqObj "list" vs.toArray 0) }
 refine wpAny_bind (wpAny_holding (wpAny_call_entry slot_list_sort ⟨_,hoL,rfl⟩ entry_list_sort (list_sort_tree hoL hi hl fun out ns' a1 a2 a3=>⟨_,rfl,?_⟩) (args_list_sort _)))
 obtain ⟨c,ec⟩:=sortedHeap_at (vs:=vs) (out:=out) hoL
 refine wpAny_pure ⟨_,rfl,hQ _ _ c out ns' e1 e2 le (fun b o e=>?_) ec a1 (a2.trans hp) a3⟩
 have lb:=Nat.lt_of_lt_of_le (Heap.lt_size e) le
 rw [sortedHeap_old (Nat.ne_of_lt lb) (by rw [Heap.size_push];exact Nat.lt_succ_of_lt lb)]
 exact Heap.get?_push_of_some _ (k _ _ e)
def setG (P:Program) (w:World) (a:Addr) (ns:List Int):HO:=.ext fun h=>ju P w h a ns
theorem vo (x:ju P w h a ns):cX P w H h a (setG P w a ns):=by
 refine ⟨x,?_,fun h1 h2 z k=>z.at fun o e=>k _ e⟩
 obtain ⟨o,es,ep,t,e,_⟩:=x
 exact ⟨o,e⟩
theorem Inv.dr (I:Inv X Z σ H s) (d:Drawn):Inv X Z σ H { s with drawn:=d }:=⟨I.ok,I.os,I.bare,I.base,I.loc,I.cell,I.free,I.freeC,I.pin,I.hok,I.len⟩
theorem pU (hc:X.calm=true):gF X (.builtin "sorted") (fun xs H Q=>∃ (a:Addr) (ns:List Int),xs=[.ref a]/\H a=some (setG X.prog X.w a ns)/\ns.length<64/\∀ (ms:List Int) l,ms.Perm ns->ms.Pairwise (·≤·)->H l=none->Q (.ref l) (upd H l (.lst (ms.map V.int)))):=by
 intro Z s σ H xs us Q I r h
 obtain ⟨a,ns,rfl,ha,hl,q⟩:=h
 obtain ⟨u,rfl,ru⟩:=vals1 r
 cases (show u=Value.ref a from ru)
 refine zQ (I.ok.hd hc) (I.hok a _ ha).1 hl fun s' l c vs ms e1 e2 le k e hi hp hs=>?_
 obtain ⟨h',g',d',tk',os'⟩:=s'
 dsimp only at e1 e2 k e
 subst e1;subst e2
 have lz:(ms.map V.int).length≤sizeLine:=by rw [List.length_map,hp.length_eq];exact Nat.le_trans (Nat.le_of_lt hl) (by decide)
 exact ⟨.ref l,_,(I.laid (t':=tk') k le (show cX X.prog X.w _ _ _ (.lst (ms.map V.int)) from ⟨lz,vs.toList,c,kj hi,by simpa using e⟩)).dr d',rfl,q ms l hp hs (I.hok.fresh le)⟩
end L2
namespace L2
open PySem PySem.Spec PyProof.Rows PySem.SeqAt PySem.W
end L2
namespace L2
open PySem PySem.Spec PyProof.Rows
theorem qt (elt target iter:Expr) (ifs:List Expr) (scope:Scope) (pos:Pos) (it acc:Value) (env:Env) :
 compTurn (.SetComp elt [⟨target,iter,ifs,0⟩] scope pos) 0 it acc env=(do
  standAt iter.pos
  match ← pyNext it with
  |none=>pure (.done .next)
  | some v=>
    letOwnedTupleGo target it v
    assign target env v
    let mut ok:=true
    for c in ifs do
     if ok then ok ← isTrue c env (eval c env)
    if ok then
     (do
      let v ← eval elt env
      standAt elt.pos
      let _ ← call (.builtin "set.add") [acc,v])
    again (.compLoop (.SetComp elt [⟨target,iter,ifs,0⟩] scope pos) 0 it acc env)):=by rfl
theorem iY {elt target iter ifs rest scope pos it acc env}
 (h0:codeAny (model prog w) A (.compLoop (.SetComp elt (⟨target,iter,ifs,0⟩::rest) scope pos) 0 it acc env) R s)
 (h:wpAny (model prog w) A (pyIter it) (fun it' s'=>codeAny (model prog w) A (.compLoop (.SetComp elt (⟨target,iter,ifs,0⟩::rest) scope pos) 0 it' acc env) R s')
  (notedBy (model prog w) A env fun x s'=>R (.error x) s') s) :
 codeAny (model prog w) A (.compStart (.SetComp elt (⟨target,iter,ifs,0⟩::rest) scope pos) 0 it acc env) R s:=by
 refine codeAny_of_tree ?_
 show wpAny _ _ ((compStart (.SetComp elt (⟨target,iter,ifs,0⟩::rest) scope pos) 0 it acc env).onRaise (fun x=>do noteFrame x env;standAt theWindowsPlace)) _ _ s
 refine wpAny_notedAt ?_
 unfold compStart
 show wpAny _ _ (ask >>= _) _ _ s
 refine wpAny_bind (wpAny_askSetting (wpAny_ite ?_))
 split
 ·first
   |exact wpAny_bind (wpAny_pure (wpAny_pure (And.intro rfl h0)))
   |exact wpAny_pure (And.intro rfl h0)
 ·first
   |exact wpAny_bind (wpAny_rule (wpAny_bind (wpAny_standAt (wpAny_bind (wpAny_mono h (fun it' s' h'=>wpAny_pure (And.intro rfl h')) fun _ _ x=>x)))))
   |(refine wpAny_bind (wpAny_rule ?_);show wpAny _ _ (standAt iter.pos >>= _) _ _ s;exact wpAny_bind (wpAny_standAt (wpAny_bind (wpAny_mono h (fun it' s' h'=>wpAny_pure (And.intro rfl h')) fun _ _ x=>x))))
theorem u9 (hS:ju P w s.heap a ns) (hr:ns.length+1<scanBound) (h:∀ h',Heap.SameBut a s.heap h'->ju P w h' a (adj ns k)->Q .none { s with heap:=h',toks:=s.toks+1 }):wpAny (model P w) A (call (.builtin "set.add") [.ref a,.int k tk]) Q E s:=by
 have hT:s.TypeIs (.ref a) "set":=by
  obtain ⟨o,es,ep,t,ho,hex,_⟩:=hS
  exact ⟨o,ho,hex.1⟩
 refine wpAny_call_entry PySem.F.slot_set_add hT PySem.F.entry_set_add ?_ (PySem.F.args_set_add_2 _ _)
 unfold Builtin.«set.add» Builtin.Frozenset.oneOther
 simp only [List.isEmpty_nil,bind_assoc]
 unfold Builtin.Frozenset.addrOf setAdd
 refine wpAny_bind (wpAny_pure ?_)
 try dsimp only
 refine wpAny_bind (wpAny_pure ?_)
 try dsimp only
 refine wpAny_bind ?_
 refine wpAny_holding ?_
 refine wpAny_bind ((intKind P w).pyHash (k:=k) (intKind_is _ _ _ _) ?_)
 refine Nz (s:={ s with toks:=s.toks+1 }) hS hr fun b h' sb g=>?_
 show wpAny _ _ (ret Value.none) _ _ _
 exact wpAny_pure ⟨_,rfl,h h' sb g⟩
theorem yL (I:Inv X Z σ H s) (e:H a=some (setG X.prog X.w a ns)) (l:ns.length+1<scanBound) (ry:RelV (.int k) u)
 (h:∀ s',Inv X Z σ (upd H a (setG X.prog X.w a (adj ns k))) s'->Q .none s'):wpAny (model X.prog X.w) A (call (.builtin "set.add") [.ref a,u]) Q E s:=by
 obtain ⟨t,rfl⟩:=ry
 refine u9 (I.hok a _ e).1 l fun h' hs g=>h _ ?_
 have ok:=vo (H:=upd H a (setG X.prog X.w a (adj ns k))) g
 exact m9 I (by rw [e];exact True.intro) hs ok.2.1 ok
def vX (P:Program) (w:World) (J:It) (g:TG) (tt:TT) (te:TE) (acc:Addr) (F:Hp->Prop) (W:Nat->Nat->St->Hp->Prop):Prop:=
 ∀ i m σ H,W i m σ H->(J.stop i H/\F H)∨(J.go i H/\∀ x H1,J.yld i H x H1->g x σ H1 fun σ2 H2=>tt σ2 H2 fun b H3=>
   if b=true then te σ2 H3 fun y H4=>∃ ns k,H4 acc=some (setG P w acc ns)/\y=.int k/\ns.length+1<scanBound/\∃ m',m'<m/\W (i+1) m' σ2 (upd H4 acc (setG P w acc (adj ns k))) else ∃ m',m'<m/\W (i+1) m' σ2 H3)
theorem tY
 (W : Nat->Nat->St->Hp->Prop) (turn:vX X.prog X.w J g tt te acc F W) (T:Turn X.prog X.w X.K tg J fp it tn)
    (hg:PG (aR X scope N' cl C s₂ H₂ fp) tg g) (hc:jy (aR X scope N' cl C s₂ H₂ fp) ifs tt) (he:PE (aR X scope N' cl C s₂ H₂ fp) elt te) (hcalm:X.calm=true)
    (hfp:∀ b∈fp,b≠C/\b∉frs X.stack/\(∀ x c,cl.lookup x=some c->c≠b))
    (hR:∀ s' σ' H',Inv (aR X scope N' cl C s₂ H₂ fp) [] σ' H' s'->F H'->R (.ok .next) s')
 (I : Inv (aR X scope N' cl C s₂ H₂ fp) [] σ H s) (st:tn 0 s.heap) (fr:∀ b∈fp,H b=none) (w0:W 0 m σ H) :
    codeAny (model X.prog X.w) X.A (.compLoop (.SetComp elt [⟨tg,iter,ifs,0⟩] scope pos) 0 (.ref it) (.ref acc) (compEnvC scope cl C X.env)) R s:=by
  refine codeAny_loop rfl (fun n s'=>∃ i σ' H',Inv (aR X scope N' cl C s₂ H₂ fp) [] σ' H' s'/\tn i s'.heap/\(∀ b∈fp,H' b=none)/\W i n σ' H') (fun n s3 hI=>?_) m ⟨0,σ,H,I,st,fr,w0⟩
  obtain ⟨i,σ3,H3,I3,st3,fr3,w3⟩:=hI
  show wpAny _ X.A ((compTurn (.SetComp elt [⟨tg,iter,ifs,0⟩] scope pos) 0 (.ref it) (.ref acc) (compEnvC scope cl C X.env)).onRaise (fun x=>do noteFrame x (compEnvC scope cl C X.env);theTreesLotGoes x)) _ _ s3
  refine wpAny_noted ?_
  rw [qt]
  have fpk:∀ {H':Hp},(∀ b∈fp,H' b=none)->∀ b∈fp,gZ (aR X scope N' cl C s₂ H₂ fp) [] H' b:=fun hn b hb=>
   ⟨hn b hb,(hfp b hb).1,(hfp b hb).2.1,.inl hb,(hfp b hb).2.2,fun p hp'=>by
    have hp'':p∈([]:List (Addr×Obj))++[]:=hp'
    exact absurd hp'' (by simp)⟩
  have fp1:=fpk fr3
  refine wpAny_bind (wpAny_standAt (wpAny_bind ?_))
  rcases turn i n σ3 H3 w3 with ⟨stop,qn⟩|⟨go,step⟩
  ·refine wpAny_mono (T.done (aR X scope N' cl C s₂ H₂ fp) rfl rfl rfl hcalm i _ s3 σ3 H3 (fun _ _=>False) I3 fp1 st3 stop) (fun r s4 ⟨hr,I4⟩=>?_) (fun _ _ z=>z.elim)
   subst hr
   exact wpAny_pure (hR s4 σ3 H3 I4 qn)
  ·refine wpAny_mono (T.item (aR X scope N' cl C s₂ H₂ fp) rfl rfl rfl hcalm i _ s3 σ3 H3 (fun _ _=>False) I3 fp1 st3 go) (fun r s4 ⟨u,hr,h4⟩=>?_) (fun _ _ z=>z.elim)
   subst hr
   refine wpAny_bind (wpAny_mono h4 (fun _ s5 ⟨x,H5,I5,r5,y5,st5,fr5⟩=>?_) (fun _ _ z=>z.elim))
   have fp5:=fpk fr5
   have I5':=I5.pinned fp5 (T.obj _ _ st5)
   refine wpAny_bind (wpAny_mono (hg _ s5 σ3 H5 x u _ I5' r5 (step x H5 y5)) (fun _ s6 ⟨σ6,H6,I6,q6⟩=>?_) (fun _ _ z=>z.elim))
   refine wpAny_bind (wpAny_mono (hc _ s6 σ6 H6 _ I6 q6) (fun ok s7 ⟨H7,I7,q7⟩=>?_) (fun _ _ z=>z.elim))
   have again:∀ {s8:Shared} {σ8:St} {H8:Hp},Inv (aR X scope N' cl C s₂ H₂ fp) ([]++gP fp s5.heap) σ8 H8 s8->tn (i+1) s8.heap/\∀ b∈fp,H8 b=none:=fun {s8 σ8 H8} I8=>
    ⟨T.keep _ _ _ st5 fun b hb o e=>(I8.pin (b,o) (List.mem_append_right _ (List.mem_append_right _ (cP hb e)))).1,fun b hb=>by
     obtain ⟨o,e,d⟩:=T.obj _ _ st5 b hb
     exact (I8.pin (b,o) (List.mem_append_right _ (List.mem_append_right _ (cP hb e)))).2.1⟩
   cases ok with
   | false=>
     rw [if_neg Bool.false_ne_true] at q7
     obtain ⟨m',hm,w7⟩:=q7
     obtain ⟨t1,t2⟩:=again I7
     exact wpAny_pure ⟨rfl,m',hm,i+1,σ6,H7,I7.unpinned,t1,t2,w7⟩
   | true=>
     rw [if_pos rfl] at q7
     refine wpAny_bind (wpAny_bind (wpAny_mono (he _ s7 σ6 H7 _ I7 q7) (fun y s8 ⟨yv,H8,I8,r8,ns,k,e8,ek,hl,m',hm,w8⟩=>?_) (fun _ _ z=>z.elim)))
     subst ek
     refine wpAny_bind (wpAny_standAt (wpAny_bind ?_))
     refine yL (X:=aR X scope N' cl C s₂ H₂ fp) I8 e8 hl r8 fun s10 I10=>?_
     obtain ⟨t1,t2⟩:=again I10
     exact wpAny_pure (wpAny_pure ⟨rfl,m',hm,i+1,σ6,_,I10.unpinned,t1,t2,w8⟩)
def Ks (P:Program) (w:World) (wi:TI) (g:TG) (tt:TT) (te:TE) (k:Nat) (js:List Nat):TE:=fun σ H Q=>wi σ H fun J H1=>∀ acc,H1 acc=none->∃ W:Nat->Nat->St->Hp->Prop,(∃ m,W 0 m (dY k js σ) (upd H1 acc (setG P w acc [])))/\
 vX P w J g tt te acc (fun H2=>Q (.ref acc) H2) W
theorem xV {X:Cx} {scope:Scope} {own:List Str} {H:Hp} {s:Shared} {tn:Nat->Heap->Prop} {cl:List (Str×Addr)} {F:Addr->Hp->Prop} {RR:Value->Addr->Result->Shared->Prop}
 (S:bw X scope own js N') (hcalm:X.calm=true) (hg:∀ cl C s₀ H₀ ex,PG (aR X scope N' cl C s₀ H₀ ex) tg g) (hc:∀ cl C s₀ H₀ ex,jy (aR X scope N' cl C s₀ H₀ ex) ifs tt) (he:∀ cl C s₀ H₀ ex,PE (aR X scope N' cl C s₀ H₀ ex) elt te)
 (hc1:∀ x c,cl.lookup x=some c->X.env.cells.lookup x=some c) (hc2:∀ x,(x,NameKind.free)∈scope.names->∃ c,cl.lookup x=some c)
 (I:Inv X Z σ H s) (T:Turn X.prog X.w X.K tg J fp it tn) (st:tn 0 s.heap) (hf:∀ b∈fp,gZ X Z H b)
 (hW:∀ acc,H acc=none->∃ W:Nat->Nat->St->Hp->Prop,(∃ m,W 0 m (dY own.length js σ) (upd H acc (setG X.prog X.w acc [])))/\vX X.prog X.w J g tt te acc (F acc) W)
 (fin:∀ acc C H' s' m,Inv X Z σ H' s'->s'.heap.Ns C m->H' C=none->C≠X.env.locals->X.s₀.heap.objs.size≤C->(∀ x c,X.env.cells.lookup x=some c->c≠C)->(∀ p∈X.pn++Z,p.1≠C)->F acc H'->RR (.ref acc) C (.ok .next) s') :
 wpAny (model X.prog X.w) X.A (newSet (.type "set")) (fun acc s₃=>wpAny (model X.prog X.w) X.A (newFunctionEnv scope X.env.globals cl [] X.env.qual none .none (some X.env)) (fun cenv s₄=>
  codeAny (model X.prog X.w) X.A (.compStart (.SetComp elt [⟨tg,iter,ifs,0⟩] scope pos) 0 (.ref it) acc { cenv with scope:=relabel scope X.env }) (RR acc cenv.locals) s₄) E s₃) E s:=by
 unfold newSet
 refine wpAny_bind (g_ ?_)
 refine wpAny_newObj_type (wpAny_newFunctionEnv S.nocell (by intro y hy;simp at hy) (fun h₁ hns₁ hsb₁=>?_) S.kind)
 dsimp only at hns₁ hsb₁ ⊢
 have hHA:H s.heap.objs.size=none:=I.hok.fresh (Nat.le_refl _)
 have IL:Inv X Z σ (upd H s.heap.objs.size (setG X.prog X.w s.heap.objs.size [])) { s with heap:=s.heap.push (Dd X.w),toks:=s.toks }:=I.laid (a:=s.heap.objs.size) (o:=setG X.prog X.w s.heap.objs.size []) (t':=s.toks) (fun _ _ q=>Heap.get?_push_of_some _ q) (Nat.le_refl _) (vo (Jr (Heap.get?_push_size _ rfl)))
 obtain ⟨W,⟨m0,w0⟩,turn⟩:=hW _ hHA
 have stL:tn 0 (s.heap.push (Dd X.w)):=T.keep _ _ _ st fun b hb o e=>Heap.get?_push_of_some _ e
 have fpLt0:∀ b∈fp,b<s.heap.objs.size:=fun b hb=>by
  obtain ⟨o,e,_⟩:=T.obj _ _ st b hb
  exact Heap.lt_size e
 have hfL:∀ b∈fp,gZ X Z (upd H s.heap.objs.size (setG X.prog X.w s.heap.objs.size [])) b:=fun b hb=>by
  obtain ⟨f0,f⟩:=hf b hb
  exact ⟨by rw [aH (Nat.ne_of_lt (fpLt0 b hb))];exact f0,f⟩
 generalize hH2:s.heap.push (Dd X.w)=H2 at hns₁ hsb₁ IL stL ⊢
 have hC:H2.objs.size=s.heap.objs.size+1:=by rw [← hH2,Heap.size_push]
 generalize hHn:upd H s.heap.objs.size (setG X.prog X.w s.heap.objs.size [])=HL at IL hfL w0
 generalize hAn:s.heap.objs.size=acc at *
 have below:∀ b,b<H2.objs.size->b≠H2.objs.size:=fun b hb=>Nat.ne_of_lt hb
 have old:∀ b o,H2.get? b=some o->h₁.get? b=some o:=fun b o e=>hsb₁.extBut b o (below b (Heap.lt_size e)) (Heap.get?_push_of_some _ e)
 generalize hCn:H2.objs.size=C at *
 have cellLt:∀ x c,X.env.cells.lookup x=some c->c<C:=fun x c e=>by
  obtain ⟨v,q⟩:=IL.cell x c e
  rw [← hCn];exact q.lt
 have pinLt:∀ p∈X.pn++Z,p.1<C:=fun p hp=>by rw [← hCn];exact Heap.lt_size (IL.pin p hp).1
 have fpLt:∀ b∈fp,b<C:=fun b hb=>Nat.lt_of_lt_of_le (fpLt0 b hb) (by rw [hC];exact Nat.le_succ _)
 have hHC:HL C=none:=IL.hok.fresh (by show H2.objs.size≤C;rw [hCn];exact Nat.le_refl _)
 have I1:Inv (aR X scope N' cl C { s with heap:=H2,toks:=s.toks } HL fp) [] (dY own.length js σ) HL { s with heap:=h₁,toks:=s.toks+([]:List (Str×Value)).length }:=
  Inv.comp S IL hc1 hc2 (by show H2.objs.size≤C;rw [hCn];exact Nat.le_refl _) hns₁ old (fun b hb=>⟨hfL b hb,by show b<H2.objs.size;rw [hCn];exact fpLt b hb⟩) hHC fun b o e=>below b (by rw [← hCn];exact Heap.lt_size e)
 have st1:tn 0 h₁:=T.keep _ _ _ stL fun b hb o e=>old b o e
 have loop:∀ s₃:Shared,s₃={ s with heap:=h₁,toks:=s.toks+([]:List (Str×Value)).length }->
  codeAny (model X.prog X.w) X.A (.compLoop (.SetComp elt [⟨tg,iter,ifs,0⟩] scope pos) 0 (.ref it) (.ref acc) (compEnvC scope cl C X.env)) (RR (.ref acc) C) s₃:=by
  rintro s₃ rfl
  refine tY W turn T (hg _ _ _ _ _) (hc _ _ _ _ _) (he _ _ _ _ _) hcalm
   (fun b hb=>⟨below b (fpLt b hb),fun z=>?_,fun x c e z=>(hfL b hb).2.2.2.2.1 x c (hc1 x c e) z⟩) ?_ I1 st1 (fun b hb=>(hfL b hb).1) w0
  ·rcases List.mem_cons.mp (IL.stkSub b z) with q|q
   ·exact (hfL b hb).2.1 q
   ·exact (hfL b hb).2.2.1 q
  ·intro s' σ' H' J' q
   obtain ⟨m,hm,_⟩:=J'.loc
   have IX:Inv X Z σ H' s':=IL.call' J'.os J'.base J'.hok J'.bare fun b hb=>⟨(hfL b hb).2.2.2.1,(hfL b hb).2.1,(hfL b hb).2.2.2.2.1,(hfL b hb).2.2.2.2.2⟩
   refine fin acc C H' s' m IX hm J'.free ?_ ?_ ?_ ?_ q
   ·exact Nat.ne_of_gt (Nat.lt_of_lt_of_le IL.lt (by show H2.objs.size≤C;rw [hCn];exact Nat.le_refl _))
   ·exact Nat.le_trans IL.sz (by show H2.objs.size≤C;rw [hCn];exact Nat.le_refl _)
   ·exact fun x c e z=>absurd (cellLt x c e) (by rw [z];exact Nat.lt_irrefl _)
   ·exact fun p hp z=>absurd (pinLt p hp) (by rw [z];exact Nat.lt_irrefl _)
 exact iY (loop _ rfl) (T.self _ 0 _ _ _ st1 (loop _ rfl))
theorem zG {X:Cx} {own:List Str} (S:bw X scope own js N') (hcalm:X.calm=true) (hi:PI X tg iter wi) (hg:∀ cl C s₀ H₀ ex,PG (aR X scope N' cl C s₀ H₀ ex) tg g) (hc:∀ cl C s₀ H₀ ex,jy (aR X scope N' cl C s₀ H₀ ex) ifs tt)
 (he:∀ cl C s₀ H₀ ex,PE (aR X scope N' cl C s₀ H₀ ex) elt te) (hs:∀ x,foldedSetIterable iter X.env x=pure x:=by intro _;rfl):PE X (.SetComp elt [⟨tg,iter,ifs,0⟩] scope pos) (Ks X.prog X.w wi g tt te own.length js):=by
 intro Z s σ H Q I h
 obtain ⟨cl,hcl,hc1,hc2⟩:=iH (env:=X.env) scope fun y hy hk=>I.ok.has y.1 (S.free y hy hk)
 show wpAny _ X.A (comprehension (.SetComp elt [⟨tg,iter,ifs,0⟩] scope pos) scope X.env _ (newSet (.type "set")) false (eval iter X.env)) _ _ s
 refine wpAny_comprehension_free (use:=none) rfl hs hcl S.kind S.names (cz (hi Z s σ H _ I h) fun v s1 h1=>cz h1 fun itv s2 h2=>?_)
 obtain ⟨it,fp,tn,J,H2,e,I2,T,st2,f2,hW⟩:=h2
 subst e
 refine xV (RR:=fun acc C=>compPost (model X.prog X.w) X.A X.xe none (EP X Z σ Q) acc C) S hcalm hg hc he hc1 hc2 I2 T st2 f2 hW ?_
 intro acc C H' s' m IX hm hCn hL hz hcn hpn q
 refine ⟨m,hm,fun h' hs'=>⟨.ref acc,_,?_,rfl,q⟩⟩
 exact IX.turned (t':=s'.toks) (it:=C) (fun b o hb e=>(hs'.2 b hb).trans e) hCn hL (.inr hz) hcn hpn
theorem qU {P:Program} {w:World} {K:PySem.W.Frag} {a acc:Addr} {xs:List V} {g:TG} {tt:TT} {te:TE} {F:Hp->Prop} {σ0:St} {H0:Hp} (Pv:Nat->St->Hp->Prop) (h0:Pv 0 σ0 H0) (hq:∀ i σ H,i≤xs.length->Pv i σ H->bD K H a xs)
 (hs:∀ i x σ H,xs[i]?=some x->Pv i σ H->∀ N:St->Hp->Prop,(∀ σ' H',Pv (i+1) σ' H'->N σ' H')->g x σ H fun σ2 H2=>tt σ2 H2 fun b H3=>if b=true then te σ2 H3 fun y H4=>∃ ns k,H4 acc=some (setG P w acc ns)/\y=.int k/\ns.length+1<scanBound/\N σ2 (upd H4 acc (setG P w acc (adj ns k))) else N σ2 H3)
 (hd:∀ σ H,Pv xs.length σ H->F H):∃ W:Nat->Nat->St->Hp->Prop,(∃ m,W 0 m σ0 H0)/\vX P w (G9 K a) g tt te acc F W:=by
 refine ⟨fun i m σ H=>m=xs.length-i/\i≤xs.length/\Pv i σ H,⟨xs.length,by simp,Nat.zero_le _,h0⟩,?_⟩
 rintro i m σ H ⟨rfl,hi,p⟩
 have q:=hq i σ H hi p
 by_cases hlt:i<xs.length
 ·refine .inr ⟨⟨xs,xs[i],q,by simp [hlt]⟩,fun x H' y=>?_⟩
  obtain ⟨e,y⟩:=y
  subst e
  exact hs i x σ _ (y xs q) p (fun σ' H'=>∃ m',m'<xs.length-i/\m'=xs.length-(i+1)/\i+1≤xs.length/\Pv (i+1) σ' H') fun σ' H' q=>⟨xs.length-(i+1),by omega,rfl,hlt,q⟩
 ·have e:i=xs.length:=by omega
  subst e
  exact .inl ⟨⟨xs,q,Nat.le_refl _⟩,hd σ H p⟩
end L2
namespace L2
open PySem PySem.Spec PyProof.Rows PySem.SeqAt PySem.W
end L2
namespace L2
open PySem PySem.Spec PyProof.Rows PySem.SeqAt
theorem Ej (I:Inv X Z σ H s) (h:Rep X.K H x d) (h':Rep X.K H x' d') (r:RelV x u) (r':RelV x' u):d=d':=by
 obtain rfl:=r.inj r'
 exact (Rep.fn I h h' r).1
noncomputable def eqDa (K:PySem.W.Frag) (H:Hp) (d:PyData) (u:Value):Bool:=@decide (∃ x e,Rep K H x e/\RelV x u/\cu e d=true) (Classical.propDecidable _)
theorem qj (I:Inv X Z σ H s) (h:Rep X.K H x e) (r:RelV x u):eqDa X.K H d u=cu e d:=by
 unfold eqDa
 cases hp:cu e d with
 |true=>exact @decide_eq_true _ (Classical.propDecidable _) ⟨x,e,h,r,hp⟩
 | false=>
   refine @decide_eq_false _ (Classical.propDecidable _) ?_
   rintro ⟨x',e',h',r',p⟩
   rw [Ej I h h' r r',p] at hp
   cases hp
theorem rK (I:Inv X Z σ H s):∀ {xs:List V} {ds:List PyData} {its:List Value},bF X.K H xs ds->Vals xs its->its.any (eqDa X.K H d)=ds.any fun e=>cu e d
 |_,_,_,.nil,.nil=>rfl
 |_,_,_,.cons h t,.cons r rs=>by rw [List.any_cons,List.any_cons,qj I h r,rK I t rs]
def Wy (K:PySem.W.Frag) (neg:Bool):R2:=fun x y H Q=>∃ p xs ds d,Rep K H x d/\y=.ref p/\bD K H p xs/\bF K H xs ds/\bK ds≤60/\Q (.bl (if neg then !(ds.any fun e=>cu e d) else ds.any fun e=>cu e d)) H
theorem yI (hu:X.A.units+64<cLine) (I:Inv X Z σ H s) (rx:RelV x v) (rd:Rep X.K H x d) (rs:bF X.K H xs ds) (r:Vals xs its) (hd:bK ds≤60) :
 ∀ w,w∈its.toArray->EqAt X.A.in1 s w v (eqDa X.K H d w):=fun w hw=>by
 obtain ⟨x',e,m,h1,h2⟩:=rF rs r (by simpa using hw)
 rw [qj I h1 h2]
 refine FW I h1 rd h2 rx ?_
 show X.A.units+1+cR e<cLine
 have:=kJ m
 omega
theorem xQ (hu:X.A.units+64<cLine):iT X (compareOp .NotIn) (Wy X.K true):=by
 intro Z s σ H x y v u Q I rx ry h
 obtain ⟨b,xs,ds,d,rd,rfl,hq,rs,hd,q⟩:=h
 cases (show u=Value.ref b from ry)
 obtain ⟨its,r,pl,hz⟩:=I.list hq
 refine SeqAt.notIn_listAt (eqDa X.K H d) pl.isList (yI hu I rx rd rs r hd) ⟨.bl _,H,I,rfl,?_⟩
 rw [show its.toArray.any (eqDa X.K H d)=its.any (eqDa X.K H d) by simp,rK I rs r]
 exact q
def CK (K:PySem.W.Frag):V->List V->Hp->VK->Prop:=fun x vs H Q=>∃ (a:Addr) (y:V) (d:PyData) (xs:List V) (ds:List PyData),x=.ref a/\vs=[y]/\Rep K H y d/\bD K H a xs/\bF K H xs ds/\bK ds≤60/\(ds.any fun e=>cu e d)=true/\Q (.int (ds.findIdx fun e=>cu e d:Nat)) H
theorem xf (hu:X.A.units+64<cLine):Kv X "list.index" (CK X.K):=by
 intro Z s σ H x vs v us Q I rx rv h
 obtain ⟨a,y,d,xs,ds,rfl,rfl,rd,hq,rs,hd,hy,q⟩:=h
 cases (show v=Value.ref a from rx)
 obtain ⟨u,rfl,ru⟩:=vals1 rv
 obtain ⟨its,r,p,hz⟩:=I.list hq
 have at_:=yI hu I ru rd rs r hd
 obtain ⟨⟨_,dd,_,sl⟩,ho,rfl,n,rfl⟩:=id p.isList
 have hlen:=r.length
 have hlen2:=rs.length
 have hj:ds.findIdx (fun e=>cu e d)<ds.length:=List.findIdx_lt_length_of_exists (by simpa using hy)
 have hn:=lH
 have eqi:∀ i (hi:i<its.length) (hi':i<ds.length),eqDa X.K H d its[i]=cu ds[i] d:=fun i hi hi'=>by
  obtain ⟨x',hx',rx'⟩:=rs.get (i:=i) (d:=ds[i]) (List.getElem?_eq_getElem hi')
  obtain ⟨w',hw,rw'⟩:=r.get (i:=i) (x:=x') hx'
  rw [List.getElem?_eq_getElem hi] at hw
  cases Option.some.inj hw
  exact qj I rx' rw'
 refine call_meets PySem.F.slot_list_index ⟨_,ho,rfl⟩ PySem.F.entry_list_index (PySem.F.args_list_index_2 _ _) (list_indexAt a its.toArray n dd sl u (eqDa X.K H d) (ds.findIdx fun e=>cu e d) (by rw [List.size_toArray];omega) (by omega) ?_ ?_) ⟨ho,at_,⟨.int (ds.findIdx (fun e=>cu e d):Nat),H,I.tok _,⟨_,rfl⟩,q⟩⟩
 ·show eqDa X.K H d its[ds.findIdx fun e=>cu e d]=true
  rw [eqi _ (by omega) hj]
  exact List.findIdx_getElem (w:=hj)
 ·intro m hm hlt
  show eqDa X.K H d its[m]=false
  rw [eqi m (by simpa using hm) (by omega)]
  have:=List.not_of_lt_findIdx (p:=fun e=>cu e d) (xs:=ds) hlt
  simpa using this
def vm (x n c:Int):Obj:={ cls:=.type "range_iterator",dict:=none,data:=.fields #[rawInt x,rawInt n,rawInt c],slots:=#[] }
theorem jx {s:Shared} {r:Addr} {lo hi:Int} {t u v:Tok} {Q:Value->Shared->Prop} (hr:IsRange s.heap r lo hi 1 t u v) (h1:-(2 ^ 62)≤lo) (h2:lo<2 ^ 62) (h3:-(2 ^ 62)≤hi) (h4:hi<2 ^ 62) (hn:lo≤hi)
 (h:Q (.ref s.heap.objs.size) { s with heap:=s.heap.push (vm (hi-1) (hi-lo) (-1)) }):wpAny (model prog w) A (call (.builtin "range.__reversed__") [.ref r]) Q E s:=by
 refine wpAny_call_entry F.slot_range_reversed ⟨_,hr,rfl⟩ F.entry_range_reversed ?_ (F.args_range_reversed_1 _)
 unfold Builtin.«range.__reversed__»
 refine wpAny_bind (wpAny_of_eq (a:=Value.ref r) rfl ?_)
 have hsz:Builtin.Range.rangeSize lo hi 1=hi-lo:=by rw [rangeSize_one];split <;> omega
 have hsm:(Builtin.Range.rangeFitsLong lo && Builtin.Range.rangeFitsLong hi && Builtin.Range.rangeFitsLong 1 && Builtin.Range.rangeFitsLong (-1) && Builtin.Range.rangeFitsLong (lo-1) && Builtin.Range.rangeFitsLong (Builtin.Range.rangeSize lo hi 1))=true:=by
  rw [hsz]
  simp only [Builtin.Range.rangeFitsLong,Bool.and_eq_true,decide_eq_true_eq]
  omega
 unfold Builtin.Range.rangeFields
 refine wpAny_bind (wpAny_bind (wpAny_field hr rfl (x:=.int lo t) rfl ?_))
 refine wpAny_bind (wpAny_of_eq (a:=some lo) rfl ?_)
 refine wpAny_bind (wpAny_field hr rfl (x:=.int hi u) rfl ?_)
 refine wpAny_bind (wpAny_of_eq (a:=some hi) rfl ?_)
 refine wpAny_bind (wpAny_field hr rfl (x:=.int 1 v) rfl ?_)
 refine wpAny_bind (wpAny_of_eq (a:=some 1) rfl ?_)
 refine wpAny_pure ?_
 dsimp only
 rw [hsm]
 simp only [Bool.not_true,Bool.false_eq_true,if_false,if_true]
 refine wpAny_bind ?_
 unfold newFields
 refine wpAny_newObj_type (wpAny_pure ⟨_,rfl,?_⟩)
 rw [hsz,Int.mul_one,show lo+(hi-lo-1)=hi-1 by omega]
 exact h
theorem jt {s:Shared} {r:Addr} {lo hi:Int} {t u v:Tok} {Q₁:Value->Shared->Prop} (hr:IsRange s.heap r lo hi 1 t u v) (h1:-(2 ^ 62)≤lo) (h2:lo<2 ^ 62) (h3:-(2 ^ 62)≤hi) (h4:hi<2 ^ 62) (hn:lo≤hi)
 (h:Q₁ (.ref s.heap.objs.size) { s with heap:=s.heap.push (vm (hi-1) (hi-lo) (-1)) }) :
 codeAny (model prog w) A (.call (.builtin "reversed.__new__") ⟨[.type "reversed",.ref r],[]⟩) (wants Q₁ E) s:=by
 refine codeAny_of_tree ?_
 show wpAny _ A.in1 (do checkBuiltinCall "reversed.__new__" ⟨[.type "reversed",.ref r],[]⟩;again (.builtin "reversed.__new__" ⟨[.type "reversed",.ref r],[]⟩)) _ _ s
 refine wpAny_bind (wpAny_of_eq (F.newCall_reversed_1 _) (wpAny_pure ⟨plainId_quiet F.plain_reversed_new _,codeAny_builtin F.entry_reversed_new ?_⟩))
 rw [Around.under_plainId F.plain_reversed_new _]
 unfold Builtin.«reversed.__new__»
 refine wpAny_bind (wpAny_of_eq (newClass_reversed _) ?_)
 try dsimp only
 refine wpAny_bind (wpAny_of_eq (a:=()) (by first|rfl|kernel_rfl) ?_)
 refine wpAny_bind (wpAny_of_eq (a:=()) (by first|rfl|kernel_rfl) ?_)
 try dsimp only
 refine wpAny_bind (wpAny_specialOf ⟨_,hr,rfl⟩ F.slot_range_reversed.lookup ?_)
 try dsimp only
 refine wpAny_bind (wpAny_of_eq (F.slot_range_reversed.bind _) ?_)
 try dsimp only
 first
 |rw [if_neg (show ¬ ((Value.builtin "range.__reversed__" == Value.none)=true) from Bool.false_ne_true)]
 |(show wpAny _ _ (if (Value.builtin "range.__reversed__" == Value.none)=true then _ else _) _ _ _;rw [if_neg (show ¬ ((Value.builtin "range.__reversed__" == Value.none)=true) from Bool.false_ne_true)])
 refine wpAny_bind (wpAny_rule ?_)
 refine wpAny_bind (m:=runValue (.call (.builtin "range.__reversed__") ⟨[.ref r],[]⟩)) (show wpAny _ _ (call (.builtin "range.__reversed__") [.ref r]) _ _ _ from jx hr h1 h2 h3 h4 hn ?_)
 first
 |exact wpAny_pure h
 |exact wpAny_bind (wpAny_pure (wpAny_pure h))
theorem lZ:isSubtype (.type "range_iterator") (.type "reversed")=pure false:=by rw [isSubtype_type];kernel_rfl
theorem fY {s:Shared} {r:Addr} {lo hi:Int} {t u v:Tok} {Q:Value->Shared->Prop} (hr:IsRange s.heap r lo hi 1 t u v) (h1:-(2 ^ 62)≤lo) (h2:lo<2 ^ 62) (h3:-(2 ^ 62)≤hi) (h4:hi<2 ^ 62) (hn:lo≤hi)
 (h:Q (.ref s.heap.objs.size) { s with heap:=s.heap.push (vm (hi-1) (hi-lo) (-1)) }):wpAny (model prog w) A (call (.type "reversed") [.ref r]) Q E s:=by
 refine callType_other (U:="range_iterator") (Q₁:=fun obj s₁=>obj=.ref s.heap.objs.size/\s₁={ s with heap:=s.heap.push (vm (hi-1) (hi-lo) (-1)) }) (by ext) F.create_reversed ⟨_,_,F.mro_reversed⟩ F.made_reversed lZ (F.typeCall_reversed_1 _) (jt hr h1 h2 h3 h4 hn ⟨rfl,rfl⟩) ?_
 rintro obj s₁ ⟨rfl,rfl⟩
 exact ⟨⟨_,Heap.get?_push_size _ rfl,rfl⟩,h⟩
def M9 (hi:Int) (n:Nat):It:=⟨fun i _=>i<n,fun i H x H'=>H'=H/\x=.int (hi-1-i),fun i _=>n≤i⟩
theorem rn {P:Program} {w:World} {K:PySem.W.Frag} {tg:Expr} (it:Addr) (hi:Int) (n:Nat):Turn P w K tg (M9 hi n) [it] it (fun i h=>IsRangeIter h it (hi-1+(i:Nat)*(-1)) ((n:Int)-(i:Nat)) (-1)) where
 mem:=by simp
 obj:=fun i h st b hb=>by
  have e:b=it:=by simpa using hb
  subst e
  exact ⟨_,st,fun v z=>by
   have z':Data.fields _=Data.cell v:=z
   cases z'⟩
 keep:=fun i h h' st k=>k it (by simp) _ st
 item:=by
  intro X hP hw hK hc i Z s σ H E I hf st hg
  subst hP hw hK
  obtain ⟨f0,f1,f2,f3,f4,f5⟩:=hf it (by simp)
  have W:=Walks.range (prog:=X.prog) (w:=X.w) (I.ok.hd hc) it (hi-1) (-1) n
  refine W.item i s _ _ hg st fun v h' tk hv st' kk=>?_
  obtain ⟨t,rfl⟩:=hv
  have I1:Inv X Z σ H { s with heap:=h',toks:=tk }:=I.turned (fun b o hb e=>kk b o (by simpa using hb) e) f0 f1 f3 f4 f5
  refine ⟨_,rfl,vV (s:={ s with heap:=h',toks:=tk }) (n:="range_iterator") st' rfl rfl (by decide) ⟨.int (hi-1-i),H,I1,⟨t,?_⟩,⟨rfl,rfl⟩,st',fun b hb=>(hf b hb).1⟩⟩
  rw [show hi-1+(i:Int)*(-1)=hi-1-i by omega]
 done:=by
  intro X hP hw hK hc i Z s σ H E I hf st hg
  subst hP hw hK
  obtain ⟨f0,f1,f2,f3,f4,f5⟩:=hf it (by simp)
  exact wpAny_pyNext_range_end (I.ok.hd hc) st (by have:n≤i:=hg;omega) fun h' eb=>⟨rfl,I.turned (t':=s.toks) (fun b o hb e=>eb b o hb e) f0 f1 f3 f4 f5⟩
 self:=fun _ _ _ _ _ st h=>wpAny_pyIter_rangeiter st h
def Wa (ta:TA):TI:=fun σ H R=>ta σ H fun vs H1=>∃ i j:Int,vs=[.int i,.int j]/\(-(2 ^ 62)≤i/\i<2 ^ 62/\-(2 ^ 62)≤j/\j<2 ^ 62/\i≤j)/\R (M9 j (j-i).toNat) H1
theorem lN:bootBuiltins "reversed" = some (.type "reversed"):=by ext
theorem Lf (hg:Gl X "reversed") (hm:X.mg "reversed" = none) (hg2:Gl X "range") (hm2:X.mg "range" = none) (ha:PA X [a,b] ta)
 (hs:starEach [a,b] X.env=(false,eval a X.env)::starEach [b] X.env:=by rfl) (hs1:(backTo pos2 (starEach [b] X.env)).any (·.1)=false:=by rfl)
 (hs2:starEach [.Call (.Name "range" p2) [a,b] [] pos2] X.env=(false,eval (.Call (.Name "range" p2) [a,b] [] pos2) X.env)::starEach [] X.env:=by rfl) (hs3:(backTo pos (starEach [] X.env)).any (·.1)=false:=by rfl) :
 PI X tg (.Call (.Name "reversed" p) [.Call (.Name "range" p2) [a,b] [] pos2] [] pos) (Wa ta):=by
 intro Z s σ H R I h
 refine Call_ (eU I hg hm lN (PyProof.Rows.callWith_type1 ?_ hs2 hs3))
 rw [hs2]
 show wpAny _ _ (spliced ((false,eval (.Call (.Name "range" p2) [a,b] [] pos2) X.env)::backTo pos (starEach [] X.env))) _ _ s
 refine Calls.spliced_cons ?_
 refine wpAny_Call_Name_kw (eU I hg2 hm2 boot_range (PyProof.Rows.callWith_type1 (cz (ha pos2 Z s σ H _ I h) fun us s1 ⟨vs,H1,I1,r1,q1⟩=>?_) hs hs1) (by decide) (by decide))
 obtain ⟨i,j,rfl,⟨q1,q2,q3,q4,q5⟩,q⟩:=q1
 obtain ⟨u1,u2,rfl,e1,e2⟩:=vals2 r1
 obtain ⟨t,rfl⟩:=e1
 obtain ⟨t',rfl⟩:=e2
 refine call_range_2 ?_
 refine Calls.spliced_nil ?_
 refine fY (IsRange.new ..) q1 q2 q3 q4 q5 ?_
 have I2:Inv X Z σ H1 { s1 with heap:=s1.heap.push { cls:=.type "range",data:=.fields #[.int i t,.int j t',.int 1 s1.toks] },toks:=s1.toks+1 }:=I1.kept fun b o e=>Heap.get?_push_of_some _ e
 refine wpAny_pyIter_rangeiter (x:=j-1) (left:=j-i) (step:=-1) (Heap.get?_push_size _ rfl) ?_
 refine ⟨_,[(s1.heap.push { cls:=.type "range",data:=.fields #[.int i t,.int j t',.int 1 s1.toks] }).objs.size],_,_,H1,rfl,I2.kept (t':=s1.toks+1) fun b o e=>Heap.get?_push_of_some _ e,rn _ j (j-i).toNat,?_,fun b hb=>?_,q⟩
 ·show IsRangeIter _ _ (j-1+((0:Nat):Int)*(-1)) (((j-i).toNat:Int)-((0:Nat):Int)) (-1)
  rw [show j-1+((0:Nat):Int)*(-1)=j-1 by omega,show ((j-i).toNat:Int)-((0:Nat):Int)=j-i by omega]
  exact Heap.get?_push_size _ rfl
 ·have e:b=(s1.heap.push { cls:=.type "range",data:=.fields #[.int i t,.int j t',.int 1 s1.toks] }).objs.size:=by simpa using hb
  subst e
  exact I2.fpOk (Nat.le_refl _) (I2.hok.fresh (Nat.le_refl _))
theorem vQ {hi:Int} {n:Nat} {g:TG} {tb:TS} {D:Ends} {σ:St} {H:Hp} (Pv:Nat->St->Hp->Prop) (h0:Pv 0 σ H)
 (hs:∀ i σ H,i<n->Pv i σ H->g (.int (hi-1-i)) σ H fun σ2 H2=>tb { D with nx:=Pv (i+1),ct:=Pv (i+1),bk:=D.nx } σ2 H2) (hd:∀ σ H,Pv n σ H->D.nx σ H) :
 ∃ W:Nat->Nat->St->Hp->Prop,(∃ m,W 0 m σ H)/\∀ i m σ H,W i m σ H->
   ((M9 hi n).stop i H/\D.nx σ H)∨((M9 hi n).go i H/\∃ N:St->Hp->Prop,(∀ σ' H',N σ' H'->∃ m',m'<m/\W (i+1) m' σ' H')/\∀ x H',(M9 hi n).yld i H x H'->g x σ H' fun σ2 H2=>tb { D with nx:=N,ct:=N,bk:=D.nx } σ2 H2):=by
 refine ⟨fun i m σ H=>m=n-i/\i≤n/\Pv i σ H,⟨n,by simp,Nat.zero_le _,h0⟩,?_⟩
 rintro i m σ H ⟨rfl,hi,p⟩
 by_cases hlt:i<n
 ·refine .inr ⟨hlt,Pv (i+1),fun σ' H' p'=>⟨n-(i+1),by omega,rfl,hlt,p'⟩,fun x H' y=>?_⟩
  obtain ⟨e,y⟩:=y
  subst e y
  exact hs i σ _ hlt p
 ·have e:i=n:=by omega
  subst e
  exact .inl ⟨Nat.le_refl _,hd σ H p⟩
open PySem.AutoSeq1 in
theorem jN (l:Addr) (items:Array Value) (n:Nat) (b:Addr) (items2:Array Value) (n2:Nat) (dd:Option Addr) (sl:Array (Option Value)) (hs0:¬(!items.isEmpty && Builtin.List.listTooLong (items.size+items2.size))=true) (hs1:items.size≤sizeLine) (hs2:items.size+items2.size≤sizeLine+1) :
 Meets (Builtin.«list.extend» ⟨[.ref l,.ref b],[]⟩) (fun _ R s=>s.heap.get? l=some { cls:=.type "list",dict:=none,data:=.seq items n,slots:=#[] }/\s.heap.get? b=some { cls:=.type "tuple",dict:=dd,data:=.seq items2 n2,slots:=sl }/\R (.ok (.ret Value.none)) { s with heap:=s.heap.update l (Obj.mapSeq fun x=>x++items2),toks:=s.toks }):=
 .of_wp fun prog w A R s h=>by
  obtain ⟨hp,g,d,tk,os⟩:=s;obtain ⟨hl,hb,h⟩:=h;have f1:=idx_int;have f2:=AutoSeq1.sub_tuple_tuple;have f3:=AutoSeq1.sub_list_list;have f4:=AutoSeq1.sub_tuple_list;have f5:=AutoSeq1.sub_list_tuple;
  have hz':(items++items2).size≤sizeLine+1:=by rw [Array.size_append];exact hs2
  wp_walk using (wpAny_updateSeq hl rfl (hz:=hs1) (_hz':=hz')),wpAny_loadPart' hl,wpAny_loadPart' hb;exact ⟨_,rfl,h⟩
def zR:V->List V->Hp->VK->Prop:=fun x vs H Q=>∃ l b xs zs,x=.ref l/\vs=[.ref b]/\H l=some (.lst xs)/\H b=some (.tup zs)/\xs.length+zs.length≤sizeLine/\Q .non (upd H l (.lst (xs++zs)))
theorem ux:Wf X "list.extend" zR:=by
 intro Z s σ H x vs v us Q I rx rv h
 obtain ⟨l,b,xs,zs,rfl,rfl,hH,hB,hz,q⟩:=h
 cases rx
 obtain ⟨u,rfl,ru⟩:=rv.one
 cases ru
 obtain ⟨z,its,n,r,hl,e⟩:=I.lstM hH
 obtain ⟨z2,its2,r2,o,h1,h2,n2,h3⟩:=(show cX X.prog X.w H s.heap b (.tup zs) from I.hok b _ hB)
 have hl2:=r2.length
 have hsz:its.toArray.size+its2.toArray.size≤sizeLine:=by rw [List.size_toArray,List.size_toArray];omega
 have hlong:¬ (!its.toArray.isEmpty && Builtin.List.listTooLong (its.toArray.size+its2.toArray.size))=true:=by
  rw [qZ hsz,Bool.and_false]
  exact Bool.false_ne_true
 obtain ⟨c,dd,dt,sl⟩:=o
 cases (show c=Value.type "tuple" from h2)
 cases (show dt=Data.seq its2.toArray n2 from h3)
 refine call_meets F.slot_list_extend ⟨_,e,rfl⟩ F.entry_list_extend (F.args_list_extend_2 _ _)
  (jN l its.toArray n b its2.toArray n2 dd sl hlong (by rw [List.size_toArray];omega) (by omega)) ⟨e,h1,?_⟩
 refine ⟨.non,_,I.lset (its':=its++its2) hH e (by simp) (r.append r2) ?_,rfl,q⟩
 rw [List.length_append]
 omega
theorem uc {K:PySem.W.Frag} {a:Addr} {xs:List V} {g:TG} {te:TE} {F:List V->Hp->Prop} {σ0:St} {H0:Hp} (Pv:Nat->List V->St->Hp->Prop) (hn:xs.length≤sizeLine) (h0:Pv 0 [] σ0 H0) (hq:∀ i ys σ H,i≤xs.length->Pv i ys σ H->bD K H a xs)
 (hs:∀ i x ys σ H p,xs[i]?=some x->ys.length=i->Pv i ys σ H->H p=none->∀ N:List V->St->Hp->Prop,(∀ ys' σ' H',ys'.length=i+1->Pv (i+1) ys' σ' H'->N ys' σ' H')->g (.ref p) σ (upd H p (.tup [.int i,x])) fun σ2 H2=>te σ2 H2 fun y H3=>N (ys++[y]) σ2 H3)
 (hd:∀ ys σ H,ys.length=xs.length->Pv xs.length ys σ H->F ys H) :
 ∃ W:Nat->Nat->List V->St->Hp->Prop,(∃ m,W 0 m [] σ0 H0)/\nR (wK K a) g mH te F W:=by
 refine ⟨fun i m ys σ H=>m=xs.length-i/\i≤xs.length/\ys.length=i/\Pv i ys σ H,⟨xs.length,by simp,Nat.zero_le _,rfl,h0⟩,?_⟩
 rintro i m ys σ H ⟨rfl,hi,hl,p⟩
 have q:=hq i ys σ H hi p
 by_cases hlt:i<xs.length
 ·refine .inr ⟨⟨xs,xs[i],q,by simp [hlt]⟩,by omega,?_⟩
  rintro x H' ⟨p',y,hn',rfl,hy,rfl⟩
  exact hs i y ys σ H p' (hy xs q) hl p hn' (fun ys' σ' H'=>∃ m',m'<xs.length-i/\m'=xs.length-(i+1)/\i+1≤xs.length/\ys'.length=i+1/\Pv (i+1) ys' σ' H') fun ys' σ' H' hl' q=>⟨xs.length-(i+1),by omega,rfl,hlt,hl',q⟩
 ·have e:i=xs.length:=by omega
  subst e
  exact .inl ⟨⟨xs,q,Nat.le_refl _⟩,hd ys σ H hl p⟩
def O_ (ta:TA):TI:=fun σ H R=>ta σ H fun vs H1=>∃ j:Int,vs=[.int j]/\(0≤j/\j<2 ^ 62)/\R (M9 j j.toNat) H1
theorem Df (hg:Gl X "reversed") (hm:X.mg "reversed" = none) (hg2:Gl X "range") (hm2:X.mg "range" = none) (ha:PA X [a] ta)
 (hs:starEach [a] X.env=[(false,eval a X.env)]:=by rfl)
 (hs2:starEach [.Call (.Name "range" p2) [a] [] pos2] X.env=(false,eval (.Call (.Name "range" p2) [a] [] pos2) X.env)::starEach [] X.env:=by rfl) (hs3:(backTo pos (starEach [] X.env)).any (·.1)=false:=by rfl) :
 PI X tg (.Call (.Name "reversed" p) [.Call (.Name "range" p2) [a] [] pos2] [] pos) (O_ ta):=by
 intro Z s σ H R I h
 refine Call_ (eU I hg hm lN (PyProof.Rows.callWith_type1 ?_ hs2 hs3))
 rw [hs2]
 show wpAny _ _ (spliced ((false,eval (.Call (.Name "range" p2) [a] [] pos2) X.env)::backTo pos (starEach [] X.env))) _ _ s
 refine Calls.spliced_cons ?_
 refine wpAny_Call_Name_kw (eU I hg2 hm2 boot_range (PyProof.Rows.callWith_type1 (cz (ha pos2 Z s σ H _ I h) fun us s1 ⟨vs,H1,I1,r1,q1⟩=>?_) hs rfl) (by decide) (by decide))
 obtain ⟨j,rfl,⟨q0,q2⟩,q⟩:=q1
 cases r1 with
 |cons r rr=>
 cases rr
 obtain ⟨t,rfl⟩:=r
 refine call_range_1 ?_
 refine Calls.spliced_nil ?_
 refine fY (IsRange.new ..) (by decide) (by decide) (by omega) q2 q0 ?_
 have I2:Inv X Z σ H1 { s1 with heap:=s1.heap.push { cls:=.type "range",data:=.fields #[.int 0 s1.toks,.int j t,.int 1 (s1.toks+1)] },toks:=s1.toks+1+1 }:=I1.kept fun b o e=>Heap.get?_push_of_some _ e
 refine wpAny_pyIter_rangeiter (x:=j-1) (left:=j-0) (step:=-1) (Heap.get?_push_size _ rfl) ?_
 refine ⟨_,[(s1.heap.push { cls:=.type "range",data:=.fields #[.int 0 s1.toks,.int j t,.int 1 (s1.toks+1)] }).objs.size],_,_,H1,rfl,I2.kept (t':=s1.toks+1+1) fun b o e=>Heap.get?_push_of_some _ e,rn _ j j.toNat,?_,fun b hb=>?_,q⟩
 ·show IsRangeIter _ _ (j-1+((0:Nat):Int)*(-1)) ((j.toNat:Int)-((0:Nat):Int)) (-1)
  rw [show j-1+((0:Nat):Int)*(-1)=j-1 by omega,show (j.toNat:Int)-((0:Nat):Int)=j-0 by omega]
  exact Heap.get?_push_size _ rfl
 ·have e:b=(s1.heap.push { cls:=.type "range",data:=.fields #[.int 0 s1.toks,.int j t,.int 1 (s1.toks+1)] }).objs.size:=by simpa using hb
  subst e
  exact I2.fpOk (Nat.le_refl _) (I2.hok.fresh (Nat.le_refl _))
def ph (lo:Option Int) (k:Int) (xs:List V):List V:=(sliceRange (sliceBounds lo none (some k) xs.length).1 (sliceBounds lo none (some k) xs.length).2.1 (sliceBounds lo none (some k) xs.length).2.2).filterMap (xs[·]?)
def Bl (K:PySem.W.Frag) (lo:Option Int) (k:Int) (te:TE):TE:=fun σ H Q=>te σ H fun x H1=>∃ a xs,x=.ref a/\bD K H1 a xs/\∀ p,H1 p=none->Q (.ref p) (upd H1 p (.lst (ph lo k xs)))
theorem oX {X:Cx} {Z:List (Addr×Obj)} {s3:Shared} {σ:St} {H3:Hp} {a:Addr} {xs:List V} {e sl:Expr} {lo:Option Int} {lv:Value} {k:Int} {t:Tok} {Q:VK} (hk:k≠0) (I3:Inv X Z σ H3 s3) (hx:bD X.K H3 a xs) (hlo:(lo=none/\lv=.none)∨∃ l t',lo=some l/\lv=.int l t') {ops:Value->Value->List Value} (hop:∀ v i,subscripted sl false v i=operate (ops v i) (getItem v i))
 (q:∀ p,H3 p=none->Q (.ref p) (upd H3 p (.lst (ph lo k xs)))) :
 wpAny (model X.prog X.w) X.A (subscriptTail e sl (.ref a) (.ref s3.heap.objs.size)) (EP X Z σ Q) X.xe { s3 with heap:=s3.heap.push { cls:=.type "slice",data:=.fields #[lv,.none,.int k t] } }:=by
 have I4:Inv X Z σ H3 { s3 with heap:=s3.heap.push { cls:=.type "slice",data:=.fields #[lv,.none,.int k t] } }:=I3.kept (t':=s3.toks) fun b ob q=>Heap.get?_push_of_some _ q
 obtain ⟨its,r,ht,hz⟩:=I4.list hx
 have hlen:its.toArray.size=its.length:=List.size_toArray ..
 refine tail_any ht.isList.typeIs slot_list_getitem.lookup ?_ (hop _ _)
 have hs:(s3.heap.push { cls:=.type "slice",data:=.fields #[lv,.none,.int k t] }).IsSliceOf s3.heap.objs.size lv .none (.int k t):=Heap.IsSliceOf.new ..
 have hl:=r.length
 have main:∀ rv,rv=(sliceRange (sliceBounds lo none (some k) its.toArray.size).1 (sliceBounds lo none (some k) its.toArray.size).2.1 (sliceBounds lo none (some k) its.toArray.size).2.2).filterMap (its.toArray[·]?)->(∃ z,(slicePick its.toArray lo none (some k)).size≤z/\z≤sizeLine)->
  EP X Z σ Q (.ref (s3.heap.push { cls:=.type "slice",data:=.fields #[lv,.none,.int k t] }).objs.size) { s3 with heap:=(s3.heap.push { cls:=.type "slice",data:=.fields #[lv,.none,.int k t] }).push { cls:=.type "list",data:=.seq rv.toArray } }:=by
  rintro rv rfl ⟨z,z1,z2⟩
  unfold slicePick at z1
  have ep:ph lo k xs=(sliceRange (sliceBounds lo none (some k) its.toArray.size).1 (sliceBounds lo none (some k) its.toArray.size).2.1 (sliceBounds lo none (some k) its.toArray.size).2.2).filterMap (xs[·]?):=by
   unfold ph
   rw [hlen,← hl]
  rw [ep] at q
  generalize sliceRange (sliceBounds lo none (some k) its.toArray.size).1 (sliceBounds lo none (some k) its.toArray.size).2.1 (sliceBounds lo none (some k) its.toArray.size).2.2=L at z1 q ⊢
  have eL:L.filterMap (its.toArray[·]?)=L.filterMap (its[·]?):=by
   congr 1
   funext i
   exact List.getElem?_toArray ..
  rw [eL] at z1 ⊢
  have rp:=Vals.pick r L
  have lp:=rp.length
  rw [List.size_toArray] at z1
  refine ⟨.ref _,_,I4.laid (t':=s3.toks) (o:=.lst (L.filterMap (xs[·]?))) (fun b ob q=>Heap.get?_push_of_some _ q) (Nat.le_refl _) ?_,rfl,q _ (I4.hok.fresh (Nat.le_refl _))⟩
  exact ⟨by omega,_,0,rp,Heap.get?_push_size _ rfl⟩
 have zs:=slicePick_size_le its.toArray lo none (some k)
 rcases hlo with ⟨rfl,rfl⟩|⟨l,t',rfl,rfl⟩
 ·refine wpAny_getItem_list_slice (s:={ s3 with heap:=s3.heap.push { cls:=.type "slice",data:=.fields #[.none,.none,.int k t] } }) ht.isList hs .none .none (.int k t) (fun z=>hk (Option.some.inj z)) ?_ (by rw [hlen,← hl];exact hz)
  exact main _ rfl ⟨_,zs,by rw [hlen,← hl];exact hz⟩
 ·refine wpAny_getItem_list_slice (s:={ s3 with heap:=s3.heap.push { cls:=.type "slice",data:=.fields #[.int l t',.none,.int k t] } }) ht.isList hs (.int l t') .none (.int k t) (fun z=>hk (Option.some.inj z)) ?_ (by rw [hlen,← hl];exact hz)
  exact main _ rfl ⟨_,zs,by rw [hlen,← hl];exact hz⟩
theorem rJ {X:Cx} (hk:k≠0) (he:PE X e te) (ho:PE X o (tC (.int k))) {ops:Value->Value->List Value} (hop:∀ v i,subscripted (.Slice none none (some o) p2) false v i=operate (ops v i) (getItem v i)):PE X (.Subscript e (.Slice none none (some o) p2) pos) (Bl X.K none k te):=by
 intro Z s σ H Q I h
 refine Subscript_ (cz (he Z s σ H _ I h) fun v s1 ⟨x,H1,I1,r1,q1⟩=>?_)
 obtain ⟨a,xs,rfl,hx,q⟩:=q1
 cases (show v=Value.ref a from r1)
 refine wpAny_Slice ?_
 rw [evalPart_none]
 refine wpAny_pure (wpAny_pure ?_)
 rw [evalPart_some]
 refine cz (ho Z s1 σ H1 (fun v H'=>v=.int k/\H'=H1) I1 ⟨rfl,rfl⟩) fun u s3 ⟨x3,H3,I3,r3,e3,e4⟩=>?_
 subst e3 e4
 obtain ⟨t,rfl⟩:=r3
 exact oX hk I3 hx (.inl ⟨rfl,rfl⟩) hop q
theorem Bh {X:Cx} (hk:k≠0) (he:PE X e te) (hl:PE X l (tC (.int j))) (ho:PE X o (tC (.int k))) {ops:Value->Value->List Value} (hop:∀ v i,subscripted (.Slice (some l) none (some o) p2) false v i=operate (ops v i) (getItem v i)):PE X (.Subscript e (.Slice (some l) none (some o) p2) pos) (Bl X.K (some j) k te):=by
 intro Z s σ H Q I h
 refine Subscript_ (cz (he Z s σ H _ I h) fun v s1 ⟨x,H1,I1,r1,q1⟩=>?_)
 obtain ⟨a,xs,rfl,hx,q⟩:=q1
 cases (show v=Value.ref a from r1)
 refine wpAny_Slice ?_
 rw [evalPart_some]
 refine cz (hl Z s1 σ H1 (fun v H'=>v=.int j/\H'=H1) I1 ⟨rfl,rfl⟩) fun u s2 ⟨x2,H2,I2,r2,e1,e2⟩=>?_
 subst e1 e2
 obtain ⟨t',rfl⟩:=r2
 rw [evalPart_none]
 refine wpAny_pure ?_
 rw [evalPart_some]
 refine cz (ho Z s2 σ H2 (fun v H'=>v=.int k/\H'=H2) I2 ⟨rfl,rfl⟩) fun u s3 ⟨x3,H3,I3,r3,e3,e4⟩=>?_
 subst e3 e4
 obtain ⟨t,rfl⟩:=r3
 exact oX hk I3 hx (.inr ⟨j,t',rfl,rfl⟩) hop q
end L2
namespace L2
open PySem
theorem b_ (D:cj X.K X.mg x st ps f fd) (F:aJ X.prog X.w X.K X.mg X.base bB k f fd ps sp) (hr:bH k X.A) (ha:PA X (e::es) t) (hg:Gl X x:=by rfl) (hdb:(x == ("__debug__" : Str))=false:=by decide) (he:starEach (e::es) X.env=(false,eval e X.env)::starEach es X.env:=by rfl) (hpl:(backTo pos (starEach es X.env)).any (·.1)=false:=by rfl):PE X (.Call (.Name x p) (e::es) [] pos) (Af sp [] E0 t):=jh F hr hg D.mg D.F.kp D.b .nil jE ha hdb he hpl
end L2
namespace Cm
open PySem L2
def top (i:Nat):Stmt:=PySem.Challenge.pw_lanescribe_k53_whole_ways_and_tests_alik.main.body.getD i (.Pass ⟨0,0,0,0⟩)
def vO (c:Addr) (a r s:Int):List (Key×V):=[(.inr "cells",.ref c),(.inr "at",.int a),(.inr "rest",.int r),(.inr "seed",.int s)]
theorem pat:putK (vO c a r s) (.inr "at") (.int x)=vO c x r s:=by rfl
theorem Gm:putK (vO c a r s) (.inr "rest") (.int x)=vO c a x s:=by rfl
theorem FJ:putK (vO c a r s) (.inr "seed") (.int x)=vO c a r x:=by rfl
theorem Bg (h:H p=some (.dK (vO c a r s))):jz H p (.str "cells") (some (.ref c)):=jz.k (k:=Sum.inr "cells") h
theorem V7 (h:H p=some (.dK (vO c a r s))):jz H p (.str "at") (some (.int a)):=jz.k (k:=Sum.inr "at") h
theorem vG (h:H p=some (.dK (vO c a r s))):jz H p (.str "rest") (some (.int r)):=jz.k (k:=Sum.inr "rest") h
theorem rG (h:H p=some (.dK (vO c a r s))):jz H p (.str "seed") (some (.int s)):=jz.k (k:=Sum.inr "seed") h
abbrev Ma:Int:=2305843009213693951
structure Dr (H:Hp) (p c:Addr):Prop where
 ex:∃ (ns:List Int) (a r s:Int),H p=some (.dK (vO c a r s))/\H c=some (.lst (ns.map V.int))/\ns.length≤63/\0≤a/\a≤ns.length/\0≤r/\0≤s/\s<Ma
theorem Dr.mono (d:Dr H p c) (h:az H H'):Dr H' p c:=by
 obtain ⟨ns,a,r,s,h1,h2,k⟩:=d.ex
 exact ⟨ns,a,r,s,h _ _ h1,h _ _ h2,k⟩
theorem Dr.ne (d:Dr H p c) (h:H q=some o) (hd:∀ kvs,o≠.dK kvs):q≠p:=by
 obtain ⟨ns,a,r,s,h1,_⟩:=d.ex
 exact fc h h1 (hd _)
theorem Dr.put (d:Dr H p c) (h1:q≠p) (h2:q≠c):Dr (upd H q o) p c:=by
 obtain ⟨ns,a,r,s,e1,e2,k⟩:=d.ex
 exact ⟨ns,a,r,s,by rw [aH h1.symm];exact e1,by rw [aH h2.symm];exact e2,k⟩
theorem Dr.cell (d:Dr H p c):∃ xs,H c=some (.lst xs):=by
 obtain ⟨ns,a,r,s,e1,e2,k⟩:=d.ex
 exact ⟨_,e2⟩
theorem Dr.neN (d:Dr H p c) (h:H q=none):p≠q:=by
 obtain ⟨ns,a,r,s,h1,_⟩:=d.ex
 exact aB h1 h
structure Txt (K:PySem.W.Frag) (mg:Str->Option Value):Prop where
 len:mg "len" = none
 range:mg "range" = none
 list:mg "list" = none
 tuple:mg "tuple" = none
 str:mg "str" = none
 bool:mg "bool" = none
 int:mg "int" = none
 min:mg "min" = none
 repr:mg "repr" = none
 all:mg "all" = none
 any:mg "any" = none
 isinstance:mg "isinstance" = none
section
variable {P:Program} {w:World} {K:PySem.W.Frag} {mg:Str->Option Value} {base:Heap}
def uY (K:PySem.W.Frag):Sp:=fun vs H Q _=>∃ (a:Addr) (ns:List Int),vs=[.ref a]/\bD K H a (ns.map V.int)/\ns.length≤63/\∀ (p c:Addr) (H':Hp),Dr H' p c->az H H'->H p=none->Q (.ref p) H'
theorem U9:aN ["_law_script","_law_seed","_law_cell"] ["_law_script"] (aA (top 66)):=by ext
theorem z_ (F:fK K "_law_begin" "_law_begin" (top 66) f fd) (T:Txt K mg):aJ P w K mg base bB 1 f fd ["_law_script"] (uY K):=by
 refine F.ok U9 (by ext) fun cdv A outer s H vs Q E hr h=>?_
 obtain ⟨a,ns,rfl,hS,hlen,k⟩:=h
 refine ⟨_,(ak (aU (i:=1) U9.nd rfl (.inl rfl) au)
  (ak (dj PassesOwn.never rfl (dM (cD wg (pv 0) g8 (bV au))) (aC (i:=2) U9.nd rfl (.inl rfl))
   (aq (aU (i:=1) U9.nd rfl (.inl rfl) (aX gR (aX c7 (aX c7 (aX jM (pv 1) au) (aX jM (pv 2) au)) au) au))))
  (aq (aD (vh (ie aO (eG ql (by rfl) T.list qw (aa (cD wg (pv 0) g8 (bV au)) aj)) (ie aO au (ie aO au (ie aO (pv 1) vN)))) rfl rfl (List.cons_ne_nil _ _) (by show 4≤15;decide)))))),?_⟩
 have hcut:jq (ns.map V.int) none (some 63)=ns.map V.int:=by
  show ((ns.map V.int).drop (HT.eF _ 0 none)).take (HT.eF _ _ (some ((63:Nat):Int))-HT.eF _ 0 none)=_
  rw [HT.yE,HT.Dt,List.drop_zero,Nat.sub_zero,List.take_of_length_le]
  rw [List.length_map];omega
 refine ⟨_,rfl,_,rfl,a,_,rfl,hS,fun q hq=>⟨q,rfl,⟨_,bD.of ao⟩,?_⟩⟩
 rw [hcut]
 have hS':∀ o,bD K (upd H q o) a (ns.map V.int):=fun o=>(show az H (upd H q o) from fun b u e=>by rw [aH (aB e hq)];exact e).seq hS
 refine ii (K:=K) (a:=q) (xs:=ns.map V.int) (fun i σ H2=>∃ (z:Int) (v:Option V),σ=[some (.ref a),some (.int z),v]/\0≤z/\z<Ma/\H2=upd H q (.lst (ns.map V.int)))
  ⟨20011,none,rfl,by decide,by decide,rfl⟩ (fun i σ H2 _ ⟨_,_,_,_,_,e⟩=>by rw [e];exact bD.of ao) ?_ ?_
 ·rintro i y σ H2 hi ⟨z,v,rfl,h0,h1,rfl⟩
  obtain ⟨n,-,rfl⟩:=List.mem_map.mp (List.mem_of_getElem? hi)
  refine ⟨_,rfl,_,_,rfl,rfl,.inl ⟨by omega,by simp only [Ma] at h1;omega⟩,_,rfl,_,_,rfl,rfl,.inr ⟨by decide,by decide⟩,_,_,rfl,rfl,_,_,rfl,rfl,_,_,rfl,rfl,(by show (0:Int)<2305843009213693951;decide),?_⟩
  exact ⟨_,_,rfl,Int.emod_nonneg _ (by decide),Int.emod_lt_of_pos _ (by decide),rfl⟩
 ·rintro σ H2 ⟨z,v,rfl,h0,h1,rfl⟩
  intro p hp
  have s1:az H (upd (upd H q (.lst (ns.map V.int))) p (.dK [])):=(az.new hq).trans (az.new hp)
  refine ⟨_,rfl,_,rfl,a,_,rfl,s1.seq hS,fun q2 hq2=>⟨q2,_,rfl,.inl (bD.of ao),fun l hl=>⟨_,rfl,?_,vO l 0 0 z,rfl,by show 4≤15;decide,?_⟩⟩⟩
  ·exact (az.new hl) _ _ ((az.new hq2) _ _ ao)
  ·rw [hcut]
   have hpl:(upd (upd (upd (upd H q (.lst (ns.map V.int))) p (.dK [])) q2 (.lst (ns.map V.int))) l (.lst (ns.map V.int))) p=some (.dK []):=(az.new (by rw [hcut] at hl;exact hl)) _ _ ((az.new hq2) _ _ ao)
   have hlp:l≠p:=fc ao hpl (by intro z;cases z)
   refine k p l _ ⟨ns,0,0,z,ao,by rw [aH hlp];exact ao,hlen,by decide,by omega,by decide,h0,h1⟩ ?_ ((az.new hq).free hp)
   intro b u e
   have e1:=((az.new (q:=l) (o:=.lst (ns.map V.int)) (by rw [hcut] at hl;exact hl)) _ _ ((az.new hq2) _ _ (s1 b u e)))
   rw [aH (aB ((az.new hq) b u e) hp)]
   exact e1
def iG:Sp:=fun vs H Q _=>∃ (p c:Addr) (m:Int),vs=[.ref p,.int m]/\Dr H p c/\0<m/\m<340282366920938463463374607431768211456/\∀ (r:Int) (H':Hp),0≤r->r<m->Dr H' p c->cZ p H H'->Q (.int r) H'
theorem Tj:aN ["_law_d","_law_many","_law_cell","_law_digit","_law_one"] ["_law_d","_law_many"] (aA (top 67)):=by ext
theorem gM (F:fK K "_law_pick" "_law_pick" (top 67) f fd) (T:Txt K mg):aJ P w K mg base bB 1 f fd ["_law_d","_law_many"] iG:=by
 refine F.ok Tj (by ext) fun cdv A outer s H vs Q E hr h=>?_
 obtain ⟨p,c,m,rfl,D,m0,m1,k⟩:=h
 have hu:=vy hr
 refine ⟨_,(ak
 (aZ (PW.pt (jR (aG bQ (cO hu (pv 0) aO (fun _ _=>rfl)) au (aQ _)) (jk (aG jH (cO hu (pv 0) aO (fun _ _=>rfl)) (aP bx (by rfl) T.len cM (aa (cO hu (pv 0) aO (fun _ _=>rfl)) aj)) (aQ _))))) (ak
 (aU (i:=2) Tj.nd rfl (.inl rfl) (a_ d7 (cO hu (pv 0) aO (fun _ _=>rfl)) (cO hu (pv 0) aO (fun _ _=>rfl)) (fun _ _=>rfl)))
 (ak
 (iM hu (pv 0) aO (aX c7 (cO hu (pv 0) aO (fun _ _=>rfl)) au) rfl)
 (aq
 (aZ (aG SQ (pv 2) (aX Ln au au) (aQ _)) (aq
 (iM hu (pv 0) aO (pv 2) rfl)) (aq
 (iM hu (pv 0) aO (aX gR (aX c7 (aX c7 (aX jM (cO hu (pv 0) aO (fun _ _=>rfl)) au) (aX jM (pv 2) au)) au) au) rfl)))))) aK)
 (ak
 (aZ (aG uX (cO hu (pv 0) aO (fun _ _=>rfl)) au (aQ _)) (ak
 (aU (i:=3) Tj.nd rfl (.inl rfl) (aX gR (cO hu (pv 0) aO (fun _ _=>rfl)) (pv 1)))
 (ak
 (iM hu (pv 0) aO (aX zc (cO hu (pv 0) aO (fun _ _=>rfl)) (pv 1)) rfl)
 (aq
 (aD (pv 3))))) aK)
 (ak
 (aU (i:=4) Tj.nd rfl (.inl rfl) (aX gR (aX jM (cO hu (pv 0) aO (fun _ _=>rfl)) (cO hu (pv 0) aO (fun _ _=>rfl))) au))
 (ak
 (iM hu (pv 0) aO (aX gR (aX c7 (aX c7 (aX jM (pv 4) au) (aX jM (cO hu (pv 0) aO (fun _ _=>rfl)) au)) au) au) rfl)
 (aq
 (aD (aX gR (aX vK (cO hu (pv 0) aO (fun _ _=>rfl)) au) (pv 1)))))))),?_⟩
 obtain ⟨ns,a,r,sd,h1,h2,hl,a0,a1,r0,s0,s1⟩:=D.ex
 have npc:c≠p:=fc h2 h1 (by intro z;cases z)
 have small:∀ {x y z:Int},(vO c x y z).length<sizeLine:=fun {x y z}=>eX (by show 4≤1000;decide)
 refine j0 (fun σ' H'=>∃ (a' r' sd':Int) (v:Option V),σ'=[some (.ref p),some (.int m),v,none,none]/\H' p=some (.dK (vO c a' r' sd'))/\cZ p H H'/\0≤a'/\a'≤ns.length/\0≤r'/\0≤sd'/\sd'<Ma) ?_ ?_
 ·rintro σ' H1 ⟨a',r',sd',v,rfl,e1,bt,b0,b1,c0,d0,d1⟩
  have hc1:∀ o,(upd H1 p o) c=some (.lst (ns.map V.int)):=fun o=>by rw [aH npc];exact bt c _ h2 npc
  refine ⟨_,rfl,p,_,rfl,vG e1,_,_,rfl,rfl,_,rfl,?_⟩
  refine gD (fun hpos=>?_) (fun _=>?_)
  ·refine ⟨_,rfl,p,_,rfl,vG e1,_,rfl,_,_,rfl,rfl,m0,?_⟩
   refine ⟨_,rfl,p,_,rfl,vG e1,_,rfl,_,_,rfl,rfl,⟨m0,m1⟩,_,rfl,p,_,rfl,nG.k (k:=Sum.inr "rest") e1 small,_,rfl,?_⟩
   rw [Gm]
   exact k _ _ (Int.emod_nonneg _ (by omega)) (Int.emod_lt_of_pos _ m0) ⟨ns,a',r' / m,sd',ao,hc1 _,hl,b0,b1,Int.ediv_nonneg c0 (by omega),d0,d1⟩ (bt.trans cZ.upd)
  ·have sq:Bw sd' sd':=.inl ⟨by omega,by simp only [Ma] at d1;omega⟩
   refine ⟨_,rfl,p,_,rfl,rG e1,_,rfl,p,_,rfl,rG e1,_,_,rfl,rfl,sq,_,_,rfl,rfl,(by show (0:Int)<2305843009213693951;decide),?_⟩
   have u0:=Int.emod_nonneg (sd'*sd') (show (2305843009213693951:Int)≠0 by decide)
   have u1:=Int.emod_lt_of_pos (sd'*sd') (show (0:Int)<2305843009213693951 by decide)
   refine ⟨_,rfl,_,_,rfl,rfl,.inr ⟨by decide,by decide⟩,_,rfl,p,_,rfl,rG e1,_,_,rfl,rfl,.inr ⟨by decide,by decide⟩,_,_,rfl,rfl,_,_,rfl,rfl,_,_,rfl,rfl,(by show (0:Int)<2305843009213693951;decide),_,rfl,p,_,rfl,nG.k (k:=Sum.inr "seed") e1 small,?_⟩
   rw [FJ]
   generalize hsd:(sd'*sd' % 2305843009213693951*7+sd'*40503+12345) % 2305843009213693951=sn
   have v0:0≤sn:=hsd ▸ Int.emod_nonneg _ (by decide)
   have v1:sn<Ma:=hsd ▸ Int.emod_lt_of_pos _ (by decide)
   refine ⟨_,rfl,p,_,rfl,rG ao,_,_,rfl,rfl,⟨by decide,by decide⟩,_,rfl,_,_,rfl,rfl,m0,?_⟩
   exact k _ _ (Int.emod_nonneg _ (by omega)) (Int.emod_lt_of_pos _ m0) ⟨ns,a',r',sn,ao,hc1 _,hl,b0,b1,c0,v0,v1⟩ (bt.trans cZ.upd)
 ·intro N hN
  refine ⟨_,rfl,p,_,rfl,vG h1,rfl,_,rfl,?_⟩
  refine gD (fun hz=>?_) (fun _=>?_)
  ·refine ⟨_,rfl,p,_,rfl,V7 h1,_,rfl,p,_,rfl,Bg h1,c,_,rfl,.inl (bD.of h2),_,_,rfl,rfl,_,rfl,?_⟩
   rw [List.length_map]
   refine gD (fun hlt=>?_) (fun _=>?_)
   ·have hlt:a<ns.length:=of_decide_eq_true hlt
    obtain ⟨z,hz'⟩:∃ z,ns[a.toNat]?=some z:=⟨_,List.getElem?_eq_getElem (by omega)⟩
    have hat:qJ (ns.map V.int) a=some (.int z):=by
     have e:(a:Int)=((a.toNat:Nat):Int):=by omega
     rw [e]
     refine aL ?_
     rw [List.getElem?_map,hz'];rfl
    refine ⟨_,rfl,p,_,rfl,Bg h1,_,rfl,p,_,rfl,V7 h1,c,_,_,_,rfl,rfl,bD.of h2,hat,?_⟩
    refine ⟨_,rfl,p,_,rfl,V7 h1,_,_,rfl,rfl,_,rfl,p,_,rfl,nG.k (k:=Sum.inr "at") h1 small,?_⟩
    rw [pat]
    refine ⟨_,rfl,_,_,rfl,rfl,⟨by decide,by decide,by decide⟩,_,_,rfl,rfl,_,rfl,?_⟩
    refine gD (fun hge=>?_) (fun _=>?_)
    ·refine ⟨_,rfl,_,rfl,p,_,rfl,nG.k (k:=Sum.inr "rest") ao small,?_⟩
     rw [Gm]
     have hge:(10:Int) ^ 18≤z:=of_decide_eq_true hge
     exact hN _ _ ⟨a+1,z,sd,_,rfl,ao,cZ.upd.trans cZ.upd,by omega,by omega,by omega,s0,s1⟩
    ·refine ⟨_,rfl,p,_,rfl,rG ao,_,_,rfl,rfl,.inr ⟨by decide,by decide⟩,_,rfl,_,_,rfl,rfl,.inr ⟨by decide,by decide⟩,_,_,rfl,rfl,_,_,rfl,rfl,_,_,rfl,rfl,(by show (0:Int)<2305843009213693951;decide),_,rfl,p,_,rfl,nG.k (k:=Sum.inr "seed") ao small,?_⟩
     rw [FJ]
     exact hN _ _ ⟨a+1,r,_,_,rfl,ao,cZ.upd.trans cZ.upd,by omega,by omega,r0,Int.emod_nonneg _ (by decide),Int.emod_lt_of_pos _ (by decide)⟩
   ·exact hN _ _ ⟨a,r,sd,_,rfl,h1,cZ.refl,a0,a1,r0,s0,s1⟩
  ·exact hN _ _ ⟨a,r,sd,_,rfl,h1,cZ.refl,a0,a1,r0,s0,s1⟩
end
theorem Dr.dk (d:Dr H p c):∃ kvs,H p=some (.dK kvs):=by
 obtain ⟨ns,a,r,s,h1,_⟩:=d.ex
 exact ⟨_,h1⟩
theorem Dr.seq (d:Dr H p c) (e:cZ p H H') (h:bD K H a xs):bD K H' a xs:=let ⟨_,hp⟩:=d.dk;e.seq hp h
theorem Dr.rep (d:Dr H p c) (e:cZ p H H') (h:Rep K H v x):Rep K H' v x:=let ⟨_,hp⟩:=d.dk;h.but e hp
theorem Dr.new (d:Dr H p c) (h:H q=none):Dr (upd H q o) p c:=d.mono (az.new h)
def xW (K:PySem.W.Frag):Sp:=fun vs H Q _=>∃ (p c q:Addr) (xs:List V),vs=[.ref p,.ref q]/\Dr H p c/\bD K H q xs/\xs≠[]/\xs.length≤1000/\∀ (x:V) (H':Hp),x∈xs->Dr H' p c->cZ p H H'->Q x H'
theorem XJ:aN ["_law_d","_law_things"] ["_law_d","_law_things"] (aA (top 68)):=by ext
theorem qR (F:fK K "_law_of" "_law_of" (top 68) f fd) (T:Txt K mg) (DP:cj K mg "_law_pick" (top 67) ["_law_d","_law_many"] fP fdP):aJ P w K mg base bB 2 f fd ["_law_d","_law_things"] (xW K):=by
 have GP:aJ P w K mg base bB 1 fP fdP ["_law_d","_law_many"] iG:=gM DP.F T
 refine F.ok XJ (by ext) fun cdv A outer s H vs Q E hr h=>?_
 obtain ⟨p,c,q,xs,rfl,D,hq,hne,hl,k⟩:=h
 refine ⟨_,(aq (aD (a_ d7 (pv 1) (b_ DP GP hr (aa (pv 0) (aa (aP bx (by rfl) T.len cM (aa (pv 1) aj)) aj))) (fun _ _=>rfl)))),?_⟩
 have hpos:0<xs.length:=List.length_pos_iff.mpr hne
 refine ⟨_,rfl,_,rfl,_,rfl,q,xs,rfl,(.inl hq),p,c,_,rfl,D,by omega,by omega,fun r H' r0 r1 D' bt=>?_⟩
 obtain ⟨j,rfl⟩:=Int.eq_ofNat_of_zero_le r0
 have hx:j<xs.length:=by omega
 exact ⟨q,xs,_,xs[j],rfl,rfl,D.seq bt hq,aL (List.getElem?_eq_getElem hx),k _ _ (List.getElem_mem hx) D' bt⟩
def spS (K:PySem.W.Frag):Nat->Sp
 |0=>fun _ _ _ _=>False
 |n+1=>fun vs H Q _=>∃ (x y:V) (d:PyData),vs=[x,y]/\Rep K H x d/\Rep K H y d/\cR d≤n/\gH d≤100000/\∀ H':Hp,az H H'->Q (.bl true) H'
theorem Xy:aN ["_law_found","_law_due"] ["_law_found","_law_due"] (aA (top 69)):=by ext
theorem qF {Q:VK} {v:V} {H:Hp} (h:Q (.bl true) H):Q (.bl (decide (v=v))) H:=by rw [decide_eq_true rfl];exact h
theorem Ei {f:Addr} {fd:FuncData} (DS:cj K mg "_law_same" (top 69) ["_law_found","_law_due"] f fd) (T:Txt K mg) (n:Nat):aJ P w K mg base bB n f fd ["_law_found","_law_due"] (spS K n):=by
 refine Nat.rec (motive:=fun n=>aJ P w K mg base bB n f fd ["_law_found","_law_due"] (spS K n)) ⟨fun _ _ _ _ h=>h.elim,fun _ _ _ _ _ _ _ _ _ _ _ _ _ h=>h.elim⟩ (fun n GS=>?_) n
 refine DS.F.ok Xy (by ext) fun cdv A outer s H vs Q E hr h=>?_
 obtain ⟨x,y,d,rfl,hx,hy,hn,hm,k⟩:=h
 refine ⟨_,(ak
 (aZ (aG uJ (pv 1) lG (aQ _)) (aq
 (aD (cU uJ (pv 0) lG (aQ _)))) aK)
 (ak
 (aZ (PW.pt (nD (dO (aP bY (by rfl) T.isinstance aV (aa (pv 1) (aa (dG rfl T.bool eY) aj)))) (lK (dO (aP bY (by rfl) T.isinstance aV (aa (pv 0) (aa (dG rfl T.bool eY) aj))))))) (aq
 (aD (cY (aP bY (by rfl) T.isinstance aV (aa (pv 1) (aa (dG rfl T.bool eY) aj))) (cY (aP bY (by rfl) T.isinstance aV (aa (pv 0) (aa (dG rfl T.bool eY) aj))) (eV (cU bQ (pv 0) (pv 1) (aQ _))))))) aK)
 (ak
 (aZ (dO (aP oW (by rfl) T.isinstance aV (aa (pv 1) (aa (bN (aa (dG rfl T.int lC) (aa (dG rfl T.str mJ) aj))) aj)))) (aq
 (aD (cY (aP oW (by rfl) T.isinstance aV (aa (pv 0) (aa (bN (aa (dG rfl T.int lC) (aa (dG rfl T.str mJ) aj))) aj))) (cY (cU bQ (aP bY (by rfl) T.isinstance aV (aa (pv 0) (aa (dG rfl T.int lC) aj))) (aP bY (by rfl) T.isinstance aV (aa (pv 1) (aa (dG rfl T.int lC) aj))) (aQ _)) (eV (cU bQ (pv 0) (pv 1) (aQ _))))))) aK)
 (ak
 (aZ (PW.pt (nD (aG j8 (aP bY (by rfl) T.isinstance aV (aa (pv 1) (aa (dG rfl T.list qw) aj))) (aP bY (by rfl) T.isinstance aV (aa (pv 0) (aa (dG rfl T.list qw) aj))) (aQ _)) (lK (aG j8 (aP bY (by rfl) T.isinstance aV (aa (pv 1) (aa (dG rfl T.tuple iw) aj))) (aP bY (by rfl) T.isinstance aV (aa (pv 0) (aa (dG rfl T.tuple iw) aj))) (aQ _))))) (aq
 (aD pq)) aK)
 (aq
 (aD (cY (cU bQ (aP bx (by rfl) T.len cM (aa (pv 0) aj)) (aP bx (by rfl) T.len cM (aa (pv 1) aj)) (aQ _)) (eV (aP (oF rfl) (by rfl) T.all Al (aa (fZ (own:=["_law_k"]) (js:=[0,1]) (N':=["_law_k","_law_found","_law_due"]) (bw.of (osc:=aA (top 69)) (N:=["_law_found","_law_due"]) rfl rfl (by ext)) rfl (iz rfl T.range (aa (aP bx (by rfl) T.len cM (aa (pv 1) aj)) aj)) (fun _ _ _ _ _=>(aC (i:=0) (show List.Nodup (["_law_k","_law_found","_law_due"]:List Str) by ext) rfl (.inl rfl) (.inr rfl))) (fun _ _ _ _ _=>cI) (fun _ _ _ _ _=>(b_ DS GS hr (aa (a_ (r:=Vn K) A_ (pv 1) (pv 0) (fun _ _=>rfl)) (aa (a_ (r:=Vn K) A_ (pv 2) (pv 0) (fun _ _=>rfl)) aj))))) aj)))))))))),?_⟩
 have z2:2≤sizeLine:=by decide
 cases hx with
 | non=>
   cases hy
   refine ⟨_,rfl,rfl,_,rfl,cL rfl ?_⟩
   exact ⟨_,rfl,rfl,k _ (az.refl _)⟩
 | bl b=>
   cases hy
   refine ⟨_,rfl,rfl,_,rfl,cg rfl ?_⟩
   refine ⟨_,rfl,_,_,_,_,rfl,(.bl b),rfl,_,rfl,cL rfl (cL rfl ?_)⟩
   exact ⟨_,rfl,_,_,_,_,rfl,(.bl b),rfl,_,rfl,cL rfl ⟨_,rfl,_,_,_,_,rfl,(.bl b),rfl,_,rfl,cL rfl ⟨_,rfl,_,rfl,rfl,qF (k _ (az.refl _))⟩⟩⟩
 | int i=>
   cases hy
   refine ⟨_,rfl,rfl,_,rfl,cg rfl ?_⟩
   refine ⟨_,rfl,_,_,_,_,rfl,(.int i),rfl,_,rfl,cg rfl ?_⟩
   refine ⟨_,rfl,_,_,_,_,rfl,(.int i),rfl,_,rfl,cg rfl ?_⟩
   refine ⟨_,rfl,z2,fun p hp=>⟨_,p,_,_,_,_,rfl,ao,.int i,rfl,_,rfl,cL rfl ?_⟩⟩
   refine ⟨_,rfl,z2,fun p2 hp2=>⟨_,p2,_,_,_,_,rfl,ao,.int i,rfl,_,rfl,cL rfl ?_⟩⟩
   refine ⟨_,rfl,_,_,_,_,rfl,.int i,rfl,_,rfl,_,_,_,_,rfl,.int i,rfl,rfl,_,rfl,?_⟩
   exact cL rfl ⟨_,rfl,_,rfl,rfl,qF (k _ ((az.new hp).trans (az.new hp2)))⟩
 | str z=>
   cases hy
   refine ⟨_,rfl,rfl,_,rfl,cg rfl ?_⟩
   refine ⟨_,rfl,_,_,_,_,rfl,(.str z),rfl,_,rfl,cg rfl ?_⟩
   refine ⟨_,rfl,_,_,_,_,rfl,(.str z),rfl,_,rfl,cg rfl ?_⟩
   refine ⟨_,rfl,z2,fun p hp=>⟨_,p,_,_,_,_,rfl,ao,.str z,rfl,_,rfl,cL rfl ?_⟩⟩
   refine ⟨_,rfl,z2,fun p2 hp2=>⟨_,p2,_,_,_,_,rfl,ao,.str z,rfl,_,rfl,cL rfl ?_⟩⟩
   refine ⟨_,rfl,_,_,_,_,rfl,.str z,rfl,_,rfl,_,_,_,_,rfl,.str z,rfl,rfl,_,rfl,?_⟩
   exact cL rfl ⟨_,rfl,_,rfl,rfl,qF (k _ ((az.new hp).trans (az.new hp2)))⟩
 | tup g rs=>
   cases hy with
   | tup g2 rs2=>
     rename_i a1 xs1 ds a2 xs2
     refine ⟨_,rfl,rfl,_,rfl,cg rfl ?_⟩
     refine ⟨_,rfl,_,_,_,_,rfl,(.tup g2 rs2),rfl,_,rfl,cg rfl ?_⟩
     refine ⟨_,rfl,_,_,_,_,rfl,(.tup g rs),rfl,_,rfl,cg rfl ?_⟩
     refine ⟨_,rfl,z2,fun p hp=>⟨_,p,_,_,_,_,rfl,ao,Rep.same (.tup g2 rs2) (az.new hp),rfl,_,rfl,cg rfl ?_⟩⟩
     have s1:az H (upd H p (.tup [.ty "int",.ty "str"])):=az.new hp
     refine ⟨_,rfl,_,_,_,_,rfl,(Rep.same (.tup g2 rs2) s1),rfl,_,rfl,_,_,_,_,rfl,(Rep.same (.tup g rs) s1),rfl,rfl,_,rfl,cg rfl ?_⟩
     refine ⟨_,rfl,_,_,_,_,rfl,(Rep.same (.tup g2 rs2) s1),rfl,_,rfl,_,_,_,_,rfl,(Rep.same (.tup g rs) s1),rfl,rfl,_,rfl,cg rfl ?_⟩
     refine ⟨_,rfl,_,_,rfl,.inr (s1.tup g),_,rfl,_,_,rfl,.inr (s1.tup g2),rfl,_,rfl,?_⟩
     have l1:=rs.length
     have l2:=rs2.length
     have hm':xs2.length≤100000:=by simp only [gH] at hm;omega
     have hl:xs1.length=xs2.length:=by omega
     generalize upd H p (.tup [.ty "int",.ty "str"])=H1 at s1 ⊢
     refine cL (by rw [hl];simp) ?_
     obtain ⟨n,rfl⟩:∃ n',n=n'+1:=⟨n-1,by simp only [cR] at hn;omega⟩
     refine ⟨_,rfl,_,_,rfl,.inr (s1.tup g2),_,rfl,by omega,by omega,?_⟩
     refine iJ (n:=xs2.length) (fun i ys σ' H'=>∃ (v:Option V),ys=(List.replicate i true).map V.bl/\σ'=[v,some _,some _]/\az H1 H') (by exact Nat.le_trans hm' (by decide)) ⟨none,rfl,rfl,az.refl _⟩ ?_ ?_
     ·rintro i ys σ' H' hi hys ⟨v,rfl,rfl,s2⟩ N hN
      obtain ⟨d1,e1,r1⟩:=rs.get' (i:=i) (x:=xs1[i]) (List.getElem?_eq_getElem (by omega))
      obtain ⟨d2,e2,r2⟩:=rs2.get' (i:=i) (x:=xs2[i]) (List.getElem?_eq_getElem hi)
      rw [e1] at e2
      cases e2
      have m1:=List.mem_of_getElem? e1
      have q1:=kJ m1
      have q2:=mR m1
      have at1:qJ xs1 (0+(i:Int))=some xs1[i]:=by rw [Int.zero_add];exact aL (List.getElem?_eq_getElem (by omega))
      have at2:qJ xs2 (0+(i:Int))=some xs2[i]:=by rw [Int.zero_add];exact aL (List.getElem?_eq_getElem hi)
      refine ⟨_,rfl,_,rfl,.inr (.inl ⟨_,_,_,_,rfl,rfl,(s1.trans s2).tup g,at1,?_⟩)⟩
      refine ⟨_,rfl,_,rfl,.inr (.inl ⟨_,_,_,_,rfl,rfl,(s1.trans s2).tup g2,at2,?_⟩)⟩
      refine ⟨_,_,d1,rfl,r1.same (s1.trans s2),r2.same (s1.trans s2),?_,?_,fun H'' s3=>?_⟩
      ·simp only [cR] at hn;omega
      ·simp only [gH] at hm;omega
      exact hN _ _ _ (by simp) ⟨_,by rw [List.replicate_succ',List.map_append];rfl,rfl,s2.trans s3⟩
     ·rintro ys σ' H' hys ⟨v,rfl,rfl,s2⟩
      refine ⟨by rw [List.length_map,List.length_replicate];exact Nat.le_trans hm' (by decide),fun q hq=>⟨q,_,rfl,bD.of ao,?_⟩⟩
      show Q (.bl ((List.replicate xs2.length true).all id)) _
      rw [show (List.replicate xs2.length true).all id=true by simp]
      exact k _ ((s1.trans s2).trans (az.new hq))
 | lst g rs=>
   cases hy with
   | lst g2 rs2=>
     rename_i a1 xs1 ds a2 xs2
     refine ⟨_,rfl,rfl,_,rfl,cg rfl ?_⟩
     refine ⟨_,rfl,_,_,_,_,rfl,(.lst g2 rs2),rfl,_,rfl,cg rfl ?_⟩
     refine ⟨_,rfl,_,_,_,_,rfl,(.lst g rs),rfl,_,rfl,cg rfl ?_⟩
     refine ⟨_,rfl,z2,fun p hp=>⟨_,p,_,_,_,_,rfl,ao,Rep.same (.lst g2 rs2) (az.new hp),rfl,_,rfl,cg rfl ?_⟩⟩
     have s1:az H (upd H p (.tup [.ty "int",.ty "str"])):=az.new hp
     refine ⟨_,rfl,_,_,_,_,rfl,(Rep.same (.lst g2 rs2) s1),rfl,_,rfl,_,_,_,_,rfl,(Rep.same (.lst g rs) s1),rfl,rfl,_,rfl,cg rfl ?_⟩
     refine ⟨_,rfl,_,_,_,_,rfl,(Rep.same (.lst g2 rs2) s1),rfl,_,rfl,_,_,_,_,rfl,(Rep.same (.lst g rs) s1),rfl,rfl,_,rfl,cg rfl ?_⟩
     refine ⟨_,rfl,_,_,rfl,.inl (s1.seq g),_,rfl,_,_,rfl,.inl (s1.seq g2),rfl,_,rfl,?_⟩
     have l1:=rs.length
     have l2:=rs2.length
     have hm':xs2.length≤100000:=by simp only [gH] at hm;omega
     have hl:xs1.length=xs2.length:=by omega
     generalize upd H p (.tup [.ty "int",.ty "str"])=H1 at s1 ⊢
     refine cL (by rw [hl];simp) ?_
     obtain ⟨n,rfl⟩:∃ n',n=n'+1:=⟨n-1,by simp only [cR] at hn;omega⟩
     refine ⟨_,rfl,_,_,rfl,.inl (s1.seq g2),_,rfl,by omega,by omega,?_⟩
     refine iJ (n:=xs2.length) (fun i ys σ' H'=>∃ (v:Option V),ys=(List.replicate i true).map V.bl/\σ'=[v,some _,some _]/\az H1 H') (by exact Nat.le_trans hm' (by decide)) ⟨none,rfl,rfl,az.refl _⟩ ?_ ?_
     ·rintro i ys σ' H' hi hys ⟨v,rfl,rfl,s2⟩ N hN
      obtain ⟨d1,e1,r1⟩:=rs.get' (i:=i) (x:=xs1[i]) (List.getElem?_eq_getElem (by omega))
      obtain ⟨d2,e2,r2⟩:=rs2.get' (i:=i) (x:=xs2[i]) (List.getElem?_eq_getElem hi)
      rw [e1] at e2
      cases e2
      have m1:=List.mem_of_getElem? e1
      have q1:=kJ m1
      have q2:=mR m1
      have at1:qJ xs1 (0+(i:Int))=some xs1[i]:=by rw [Int.zero_add];exact aL (List.getElem?_eq_getElem (by omega))
      have at2:qJ xs2 (0+(i:Int))=some xs2[i]:=by rw [Int.zero_add];exact aL (List.getElem?_eq_getElem hi)
      refine ⟨_,rfl,_,rfl,.inl ⟨_,_,_,_,rfl,rfl,(s1.trans s2).seq g,at1,?_⟩⟩
      refine ⟨_,rfl,_,rfl,.inl ⟨_,_,_,_,rfl,rfl,(s1.trans s2).seq g2,at2,?_⟩⟩
      refine ⟨_,_,d1,rfl,r1.same (s1.trans s2),r2.same (s1.trans s2),?_,?_,fun H'' s3=>?_⟩
      ·simp only [cR] at hn;omega
      ·simp only [gH] at hm;omega
      exact hN _ _ _ (by simp) ⟨_,by rw [List.replicate_succ',List.map_append];rfl,rfl,s2.trans s3⟩
     ·rintro ys σ' H' hys ⟨v,rfl,rfl,s2⟩
      refine ⟨by rw [List.length_map,List.length_replicate];exact Nat.le_trans hm' (by decide),fun q hq=>⟨q,_,rfl,bD.of ao,?_⟩⟩
      show Q (.bl ((List.replicate xs2.length true).all id)) _
      rw [show (List.replicate xs2.length true).all id=true by simp]
      exact k _ ((s1.trans s2).trans (az.new hq))
def Lc (x:Str):Prop:=∀ c∈x.cps.toList,97≤c/\c≤122
structure Nm (x:Str):Prop where
 lo:1≤x.length
 hi:x.length≤8
 lc:Lc x
theorem Lc.app (a:Lc x) (b:Lc y):Lc (x++y):=fun c hc=>by
 rw [Str.cps_append,Array.toList_append,List.mem_append] at hc
 exact hc.elim (a c) (b c)
theorem mZ (sep:Str) (hs:sep.cps.toList=[]):∀ ys:List Str,(Str.join sep ys).cps.toList=(ys.map (·.cps.toList)).flatten
 |[]=>rfl
 |[x]=>by show x.cps.toList=_;simp
 | x::y::r=>by
   show (x++sep++Str.join sep (y::r)).cps.toList=_
   rw [Str.cps_append,Array.toList_append,Str.cps_append,Array.toList_append,hs,List.append_nil,mZ sep hs (y::r),List.map_cons (l:=y::r),List.flatten_cons]
theorem qL (sep:Str) (ys:List Str):PySem.Txt.join sep ys=Str.join sep ys:=by
 show PySem.Builtin.Str.glued sep ys=_
 rw [PySem.StrLaws.glued_eq_join]
theorem bZ (x:Str):x.length=x.cps.toList.length:=by simp [Str.length]
section
variable {P:Program} {w:World} {K:PySem.W.Frag} {mg:Str->Option Value} {base:Heap}
def uC:Sp:=fun vs H Q _=>∃ (p dc:Addr),vs=[.ref p]/\Dr H p dc/\∀ (x:Str) (H':Hp),Nm x->Dr H' p dc->cZ p H H'->Q (.str x) H'
theorem QZ:aN ["_law_d","_law_letters","_law_first","_law_size","_law_some"] ["_law_d"] (aA (top 70)):=by ext
theorem uG (h:qJ ("abcdefghijklmnopqrstuvwxyz" : Str).cps.toList i=some c):97≤c/\c≤122:=by
 have:c∈("abcdefghijklmnopqrstuvwxyz" : Str).cps.toList:=by
  unfold qJ at h
  obtain ⟨j,_,e⟩:=Option.bind_eq_some_iff.mp h
  exact List.mem_of_getElem? e
 have all:∀ c∈("abcdefghijklmnopqrstuvwxyz" : Str).cps.toList,97≤c/\c≤122:=by ext
 exact all c this
theorem vp (F:fK K "_law_word" "_law_word" (top 70) f fd) (T:Txt K mg) (DP:cj K mg "_law_pick" (top 67) ["_law_d","_law_many"] fP fdP) (DO:cj K mg "_law_of" (top 68) ["_law_d","_law_things"] fO fdO) :
 aJ P w K mg base bB 3 f fd ["_law_d"] uC:=by
 have GP:aJ P w K mg base bB 1 fP fdP ["_law_d","_law_many"] iG:=gM DP.F T
 have GO:aJ P w K mg base bB 2 fO fdO ["_law_d","_law_things"] (xW K):=qR DO.F T DP
 refine F.ok QZ (by ext) fun cdv A outer s H vs Q E hr h=>?_
 obtain ⟨p,dc,rfl,D,k⟩:=h
 have hr1:bH 1 _:=hr.mono (by decide)
 refine ⟨_,(ak
 (aU (i:=1) QZ.nd rfl (.inr rfl) aO)
 (ak
 (aU (i:=2) QZ.nd rfl (.inl rfl) (b_ DO GO hr (aa (pv 0) (aa (bL (aa aO (aa aO (aa aO (aa aO (aa aO aj)))))) aj))))
 (ak
 (aU (i:=3) QZ.nd rfl (.inl rfl) (aX c7 au (b_ DP GP hr1 (aa (pv 0) (aa (aX fU au (aP d_ (by rfl) T.len cM (aa (pv 2) aj))) aj)))))
 (ak
 (aU (i:=4) QZ.nd rfl (.inl rfl) (gB PySem.F.plainAttrs_str PySem.F.slot_str_join PySem.F.type_str_join vq aO (aa (fZ (own:=["_law_k"]) (js:=[1,0]) (N':=["_law_k","_law_letters","_law_d"]) (bw.of (osc:=aA (top 70)) (N:=["_law_d","_law_letters","_law_first","_law_size","_law_some"]) rfl rfl (by ext)) rfl (iz rfl T.range (aa (pv 3) aj)) (fun _ _ _ _ _=>(aC (i:=0) (show List.Nodup (["_law_k","_law_letters","_law_d"]:List Str) by ext) rfl (.inl rfl) (.inr rfl))) (fun _ _ _ _ _=>cI) (fun _ _ _ _ _=>(a_ (r:=Iu) mY (pv 1) (b_ DP GP hr1 (aa (pv 2) (aa au aj))) (fun _ _=>rfl)))) aj)))
 (aq
 (aD (a_ d7 (bL (aa (aX jU (pv 2) (pv 4)) (aa (aX jU (pv 4) (pv 2)) aj))) (b_ DP GP hr1 (aa (pv 0) (aa au aj))) (fun _ _=>rfl)))))))),?_⟩
 refine ⟨_,rfl,(by ext),fun q hq=>?_⟩
 refine ⟨p,dc,q,_,rfl,D.new hq,bD.of ao,by simp,by simp,fun x H1 hx D1 b1=>?_⟩
 obtain ⟨z,rfl,hz,lz⟩:∃ z:Str,x=.str z/\z.length≤7/\Lc z:=by
  simp only [List.mem_cons,List.not_mem_nil,or_false] at hx
  rcases hx with rfl|rfl|rfl|rfl|rfl
  all_goals exact ⟨_,rfl,by ext,by unfold Lc;decide +kernel⟩
 refine ⟨_,rfl,_,rfl,z,rfl,Nat.le_trans hz (by decide),_,_,rfl,rfl,p,dc,_,rfl,D1,by omega,by omega,fun r H2 r0 r1 D2 b2=>?_⟩
 refine ⟨_,_,rfl,rfl,?_⟩
 refine ⟨rfl,_,rfl,_,rfl,by omega,by omega,?_⟩
 refine iJ (n:=(1+r).toNat) (fun i ys σ' H'=>∃ (cs:List Str) (v:Option V),ys=cs.map V.str/\σ'=[v,some (.str "abcdefghijklmnopqrstuvwxyz"),some (.ref p)]/\Dr H' p dc/\cZ p H2 H'/\∀ c∈cs,c.length=1/\Lc c) (Nat.le_trans (show (1+r).toNat≤8 by omega) (by decide)) ⟨[],none,rfl,rfl,D2,cZ.refl,fun _ h=>nomatch h⟩ ?_ ?_
 ·rintro i ys σ' H' hi hys ⟨cs,v,rfl,rfl,D3,b3,hc⟩ N hN
  refine ⟨_,rfl,_,rfl,p,dc,_,rfl,D3,by decide,by decide,fun r' H4 r0' r1' D4 b4=>?_⟩
  obtain ⟨j,rfl⟩:=Int.eq_ofNat_of_zero_le r0'
  obtain ⟨c,hcj⟩:∃ c,("abcdefghijklmnopqrstuvwxyz" : Str).cps.toList[j]?=some c:=⟨_,List.getElem?_eq_getElem (by show j<26;omega)⟩
  have hat:qJ ("abcdefghijklmnopqrstuvwxyz" : Str).cps.toList (j:Int)=some c:=aL hcj
  refine ⟨_,_,c,rfl,rfl,(by ext),hat,?_⟩
  refine hN _ _ _ (by simpa using hys) ⟨cs++[⟨#[c]⟩],_,by simp,rfl,D4,b3.trans b4,fun c' hc'=>?_⟩
  rcases List.mem_append.mp hc' with hc'|hc'
  ·exact hc c' hc'
  ·obtain rfl:c'=⟨#[c]⟩:=by simpa using hc'
   refine ⟨rfl,fun x hx=>?_⟩
   obtain rfl:x=c:=by simpa using hx
   exact uG hat
 ·rintro ys σ' H' hys ⟨cs,v,rfl,rfl,D3,b3,hc⟩
  rw [List.length_map] at hys
  refine ⟨by rw [List.length_map,hys];exact Nat.le_trans (show (1+r).toNat≤8 by omega) (by decide),fun q2 hq2=>?_⟩
  have hsum:(cs.map (·.length)).sum=cs.length:=by
   clear hys
   induction cs with
   |nil=>rfl
   |cons c t ih=>rw [List.map_cons,List.sum_cons,ih fun d hd=>hc d (List.mem_cons_of_mem _ hd),(hc c List.mem_cons_self).1,List.length_cons,Nat.add_comm]
  refine ⟨_,q2,cs,rfl,rfl,bD.of ao,by rw [hsum,show (Str.ofString "").length=0 from rfl];omega,?_⟩
  rw [qL]
  have jl:(Str.join (Str.ofString "") cs).length=cs.length:=by
   rw [bZ,mZ _ rfl,List.length_flatten,List.map_map,← hsum]
   congr 1
  have jc:Lc (Str.join (Str.ofString "") cs):=fun x hx=>by
   rw [mZ _ rfl] at hx
   obtain ⟨l,hl,hxl⟩:=List.mem_flatten.mp hx
   obtain ⟨c,hcm,rfl⟩:=List.mem_map.mp hl
   exact (hc c hcm).2 x hxl
  generalize Str.join (Str.ofString "") cs=js at jl jc
  have hj8:js.length+z.length≤8/\1≤js.length:=by omega
  refine ⟨_,rfl,_,rfl,_,_,rfl,rfl,Nat.le_trans (show z.length+js.length≤8 by omega) (by decide),_,rfl,_,rfl,_,_,rfl,rfl,Nat.le_trans (show js.length+z.length≤8 by omega) (by decide),(by ext),fun q3 hq3=>?_⟩
  have D4:Dr _ p dc:=(D3.new (o:=.lst (cs.map V.str)) hq2).new (o:=.lst [.str (z++js),.str (js++z)]) hq3
  refine ⟨_,rfl,p,dc,_,rfl,D4,by decide,by decide,fun r' H5 r0' r1' D5 b5=>?_⟩
  have nm1:Nm (z++js):=⟨by rw [Str.length_append];omega,by rw [Str.length_append];omega,lz.app jc⟩
  have nm2:Nm (js++z):=⟨by rw [Str.length_append];omega,by rw [Str.length_append];omega,jc.app lz⟩
  have bt:cZ p H H5:=((((cZ.new hq).trans b1).trans b2).trans b3).trans (((cZ.new hq2).trans (cZ.new hq3)).trans b5)
  have hq5:bD K H5 q3 [.str (z++js),.str (js++z)]:=D4.seq b5 (bD.of ao)
  by_cases h0:r'=0
  ·subst h0
   exact ⟨_,_,_,_,rfl,rfl,hq5,rfl,k _ _ nm1 D5 bt⟩
  ·obtain rfl:r'=1:=by omega
   exact ⟨_,_,_,_,rfl,rfl,hq5,rfl,k _ _ nm2 D5 bt⟩
def vA (K:PySem.W.Frag):Sp:=fun vs H Q _=>∃ (p dc:Addr) (m:Int),vs=[.ref p,.int m]/\Dr H p dc/\0≤m/\m≤60/\∀ (q:Addr) (ys:List Str) (H':Hp),H' q=some (.lst (ys.map V.str))->H q=none->(ys.length:Int)=m->(∀ y∈ys,Nm y)->ys.Nodup->Dr H' p dc->cZ p H H'->Q (.ref q) H'
theorem wD:aN ["_law_d","_law_many","_law_found","_law_k","_law_word_here","_law_step"] ["_law_d","_law_many"] (aA (top 71)):=by ext
def wd (t:Nat):Str:=⟨#[97+t % 8,113+t / 8 % 8]⟩
theorem Qq (t:Nat):Nm (wd t):=⟨by show 1≤2;decide,by show 2≤8;decide,fun c hc=>by
 have:c=97+t % 8∨c=113+t / 8 % 8:=by simpa [wd] using hc
 omega⟩
theorem LQ (h:wd (k+s)=wd (k+s')) (h1:s<64) (h2:s'<64):s=s':=by
 have e:(#[97+(k+s) % 8,113+(k+s) / 8 % 8]:Array Nat)=#[97+(k+s') % 8,113+(k+s') / 8 % 8]:=congrArg Str.cps h
 have e1:97+(k+s) % 8=97+(k+s') % 8/\113+(k+s) / 8 % 8=113+(k+s') / 8 % 8:=by simpa using congrArg Array.toList e
 omega
theorem sub_len {α:Type} [DecidableEq α]:∀ {l ys:List α},l.Nodup->(∀ x∈l,x∈ys)->l.length≤ys.length
 |[],_,_,_=>Nat.zero_le _
 | a::l,ys,nd,hs=>by
   obtain ⟨n1,n2⟩:=List.nodup_cons.mp nd
   have ha:=hs a List.mem_cons_self
   have q:=sub_len (ys:=ys.erase a) n2 fun x hx=>(List.mem_erase_of_ne (by intro z;exact n1 (z ▸ hx))).mpr (hs x (List.mem_cons_of_mem _ hx))
   rw [List.length_erase_of_mem ha] at q
   have:=List.length_pos_of_mem ha
   rw [List.length_cons];omega
theorem y_ {α β:Type} {f:α->β}:∀ {l:List α},l.Nodup->(∀ a∈l,∀ b∈l,f a=f b->a=b)->(l.map f).Nodup
 |[],_,_=>List.nodup_nil
 | a::l,nd,h=>by
   obtain ⟨n1,n2⟩:=List.nodup_cons.mp nd
   rw [List.map_cons]
   refine List.nodup_cons.mpr ⟨fun m=>?_,y_ n2 fun x hx y hy=>h x (List.mem_cons_of_mem _ hx) y (List.mem_cons_of_mem _ hy)⟩
   obtain ⟨b,hb,e⟩:=List.mem_map.mp m
   exact n1 (h b (List.mem_cons_of_mem _ hb) a List.mem_cons_self e ▸ hb)
theorem Ld {ys:List Str} (hl:ys.length<64) (h:∀ s,s<64->wd (k+s)∈ys):False:=by
 have nd:((List.range 64).map fun s=>wd (k+s)).Nodup:=y_ List.nodup_range fun a ha b hb e=>LQ e (List.mem_range.mp ha) (List.mem_range.mp hb)
 have q:=sub_len nd fun x hx=>by
  obtain ⟨s,hs,rfl⟩:=List.mem_map.mp hx
  exact h s (List.mem_range.mp hs)
 rw [List.length_map,List.length_range] at q
 omega
theorem yN (F:fK K "_law_words" "_law_words" (top 71) f fd) (T:Txt K mg) (DP:cj K mg "_law_pick" (top 67) ["_law_d","_law_many"] fP fdP) (DO:cj K mg "_law_of" (top 68) ["_law_d","_law_things"] fO fdO)
 (DW:cj K mg "_law_word" (top 70) ["_law_d"] fW fdW):aJ P w K mg base bB 4 f fd ["_law_d","_law_many"] (vA K):=by
 have GW:aJ P w K mg base bB 3 fW fdW ["_law_d"] uC:=vp DW.F T DP DO
 refine F.ok wD (by ext) fun cdv A outer s H vs Q E hr h=>?_
 obtain ⟨p,dc,m,rfl,D,m0,m1,k⟩:=h
 refine ⟨_,(ak
 (aU (i:=2) wD.nd rfl (.inl rfl) (bL aj))
 (ak
 (dj PassesOwn.never rfl (iz rfl T.range (aa (pv 1) aj)) (aC (i:=3) wD.nd rfl (.inl rfl)) (ak
 (aU (i:=4) wD.nd rfl (.inl rfl) (b_ DW GW hr (aa (pv 0) aj)))
 (ak
 (dj PassesOwn.never rfl (iz rfl T.range (aa au aj)) (aC (i:=5) wD.nd rfl (.inl rfl)) (aq
 (aZ (aG jm (pv 4) (pv 2) rfl) (aq
 (aU (i:=4) wD.nd rfl (.inl rfl) (aX jU (a_ mY aO (aX gR (aX c7 (pv 3) (pv 5)) au) (fun _ _=>rfl)) (a_ mY aO (aX gR (aX vK (aX c7 (pv 3) (pv 5)) au) au) (fun _ _=>rfl))))) aK)))
 (aq
 (bU (gB PySem.F.plainAttrs_list PySem.F.slot_list_append PySem.F.type_list_append dJ (pv 2) (aa (pv 4) aj)))))))
 (aq
 (aD (pv 2))))),?_⟩
 refine ⟨(by ext),fun q hq=>?_⟩
 refine ⟨_,rfl,m,rfl,by omega,by omega,?_⟩
 refine lD (n:=m.toNat) (fun i σ H1=>∃ (ys:List Str) (a b c:Option V),σ=[some (.ref p),some (.int m),some (.ref q),a,b,c]/\H1 q=some (.lst (ys.map V.str))/\ys.length=i/\(∀ y∈ys,Nm y)/\ys.Nodup/\Dr H1 p dc/\cZ p H H1)
  ⟨[],none,none,none,rfl,ao,rfl,(fun _ h=>by cases h),List.nodup_nil,D.new hq,cZ.new hq⟩ ?_ ?_
 ·rintro i σ H1 hi ⟨ys,a,b,c,rfl,e1,hl,hy,nd,D1,b1⟩
  refine ⟨_,rfl,p,dc,rfl,D1,fun x H2 nx D2 b2=>?_⟩
  have e2:H2 q=some (.lst (ys.map V.str)):=b2 q _ e1 (D1.ne e1 (by intro kvs z;cases z))
  refine ⟨_,rfl,by decide,by decide,?_⟩
  refine lD (n:=64) (fun j σ H3=>∃ (z:Str) (c:Option V),σ=[some (.ref p),some (.int m),some (.ref q),some (.int (0+(i:Int))),some (.str z),c]/\Nm z/\H3=H2/\(z∉ys∨∀ s,s<j->wd (i+s)∈ys)) ⟨x,_,rfl,nx,rfl,.inr fun s hs=>absurd hs (Nat.not_lt_zero _)⟩ ?_ ?_
  ·rintro j σ H3 hj ⟨z,c,rfl,nz,rfl,hz⟩
   refine ⟨_,rfl,_,rfl,q,_,rfl,.inl (bD.of e2),rfl,?_,_,rfl,?_⟩
   ·rw [List.all_eq_true]
    intro v hv
    obtain ⟨y,_,rfl⟩:=List.mem_map.mp hv
    rfl
   ·have hin:inV (.str z) (ys.map V.str)=true↔z∈ys:=by
     unfold inV
     rw [List.any_map,List.any_eq_true]
     constructor
     ·rintro ⟨y,hy1,hy2⟩
      have:y=z:=by simpa [vg] using hy2
      exact this ▸ hy1
     ·intro hz'
      exact ⟨z,hz',by simp [vg]⟩
    refine gD (fun hc=>?_) (fun hc=>⟨z,_,rfl,nz,rfl,.inl fun hz'=>hc (hin.mpr hz')⟩)
    have hz1:=hin.mp hc
    have hz2:∀ s,s<j->wd (i+s)∈ys:=hz.elim (fun n=>absurd hz1 n) id
    have u1:(0+(i:Int)+(0+(j:Int))) % 8=(((i+j) % 8:Nat):Int):=by omega
    have u2:(0+(i:Int)+(0+(j:Int))) / 8 % 8=(((i+j) / 8 % 8:Nat):Int):=by omega
    have h1:("abcdefgh" : Str).cps.toList[(i+j) % 8]?=some (97+(i+j) % 8):=by
     have:=Nat.mod_lt (i+j) (show 0<8 by decide)
     generalize (i+j) % 8=m8 at this
     revert m8;decide +kernel
    have h2:("qrstuvwx" : Str).cps.toList[(i+j) / 8 % 8]?=some (113+(i+j) / 8 % 8):=by
     have:=Nat.mod_lt ((i+j) / 8) (show 0<8 by decide)
     generalize (i+j) / 8 % 8=m8 at this
     revert m8;decide +kernel
    refine ⟨_,rfl,_,rfl,_,_,rfl,rfl,_,_,rfl,rfl,(by show (0:Int)<8;decide),_,_,_,rfl,rfl,(by ext),(by rw [u1];exact aL h1),?_⟩
    refine ⟨_,rfl,_,rfl,_,_,rfl,rfl,_,_,rfl,rfl,⟨by decide,by decide⟩,_,_,rfl,rfl,(by show (0:Int)<8;decide),_,_,_,rfl,rfl,(by ext),(by rw [u2];exact aL h2),?_⟩
    refine ⟨_,_,rfl,rfl,(show 1+1≤sizeLine by decide),wd (i+j),_,rfl,Qq _,rfl,?_⟩
    by_cases hw:wd (i+j)∈ys
    ·refine .inr fun s hs=>?_
     by_cases hsj:s=j
     ·rw [hsj];exact hw
     ·exact hz2 s (by omega)
    ·exact .inl hw
  ·rintro σ H3 ⟨z,c,rfl,nz,rfl,hz⟩
   have znew:z∉ys:=hz.elim id fun h=>(Ld (by omega) h).elim
   refine ⟨_,rfl,.inl ⟨rfl,_,bD.of e2⟩,_,rfl,q,_,_,rfl,rfl,e2,by rw [List.length_map];exact eX (by omega),?_⟩
   have nqc:q≠dc:=by
    obtain ⟨xs,e⟩:=D.cell
    exact (aB e hq).symm
   have nqp:q≠p:=D2.ne e2 (by intro kvs z;cases z)
   refine ⟨ys++[z],_,_,_,rfl,by rw [ao];simp,by simp [hl],fun y hy'=>(List.mem_append.mp hy').elim (hy y) (fun h=>by rw [List.mem_singleton.mp h];exact nz),uT nd znew,D2.put nqp nqc,fun b o e hb=>?_⟩
   rw [aH (aB e hq)]
   exact (b1.trans b2) b o e hb
 ·rintro σ H1 ⟨ys,a,b,c,rfl,e1,hl,hy,nd,D1,b1⟩
  exact ⟨_,rfl,k q ys H1 e1 hq (by omega) hy nd D1 b1⟩
end
abbrev gr:=Str×Int×Int
structure nC (f:gr):Prop where
 nm:Nm f.1
 lo:-999999≤f.2.1
 le:f.2.1≤f.2.2
 hi:f.2.2≤999999
def TK (H H':Hp):Prop:=∀ b xs,H b=some (.tup xs)->H' b=some (.tup xs)
theorem TK.trans (a:TK H H1) (b:TK H1 H2):TK H H2:=fun c xs h=>b c xs (a c xs h)
theorem TK.but (d:Dr H p dc) (b:cZ p H H'):TK H H':=fun c xs h=>b c _ h (d.ne h (by intro kvs z;cases z))
theorem TK.lst (h:H q=some (.lst xs)):TK H (upd H q o):=fun c ys e=>by rw [aH (fc e h (by intro z;cases z))];exact e
theorem TK.new (h:H q=none):TK H (upd H q o):=fun c ys e=>by rw [aH (aB e h)];exact e
def iV (H:Hp) (x:V) (f:gr):Prop:=∃ b,x=.ref b/\H b=some (.tup [.str f.1,.int f.2.1,.int f.2.2])
theorem iV.tk (h:iV H x f) (k:TK H H'):iV H' x f:=let ⟨b,e,q⟩:=h;⟨b,e,k _ _ q⟩
theorem gf:∀ {xs:List V} {fs:List gr},Paired (iV H) xs fs->TK H H'->Paired (iV H') xs fs
 |_,_,.nil,_=>.nil
 |_,_,.cons r t,k=>.cons (r.tk k) (gf t k)
theorem uni:∀ c<128,Unicode.isAlpha c=(decide (65≤c/\c≤90) || decide (97≤c/\c≤122))/\Unicode.isLower c=decide (97≤c/\c≤122)/\Unicode.isUpper c=decide (65≤c/\c≤90)/\Unicode.isTitle c=false:=by ext
def nameB (x:Str):Bool:=decide (x.length≤8) && (x.cps.all (·<128) && ((x.length > 0 && x.cps.all Unicode.isAlpha) && (x.cps.any Unicode.isLower && !x.cps.any fun c=>Unicode.isUpper c || Unicode.isTitle c)))
theorem cG (x:Str):nameB x=true↔Nm x:=by
 unfold nameB
 simp only [Bool.and_eq_true,decide_eq_true_eq,Bool.not_eq_true',← Array.all_toList,← Array.any_toList,List.all_eq_true,List.any_eq_true,List.any_eq_false]
 constructor
 ·rintro ⟨h8,ha,⟨h0,hal⟩,⟨c0,hc0,hl0⟩,hu⟩
  refine ⟨h0,h8,fun c hc=>?_⟩
  have c1:c<128:=ha c hc
  obtain ⟨u1,u2,u3,u4⟩:=uni c c1
  have a1:=hal c hc
  have a2:=hu c hc
  rw [u1] at a1
  rw [u3,u4] at a2
  simp at a1 a2
  omega
 ·rintro ⟨h0,h8,lc⟩
  have cc:∀ c∈x.cps.toList,c<128/\97≤c/\c≤122:=fun c hc=>⟨by have:=lc c hc;omega,lc c hc⟩
  refine ⟨h8,fun c hc=>(cc c hc).1,⟨h0,fun c hc=>?_⟩,?_,fun c hc=>?_⟩
  ·rw [(uni c (cc c hc).1).1];simp [(cc c hc).2]
  ·rw [bZ] at h0
   obtain ⟨c,hc⟩:=List.exists_mem_of_length_pos (show 0<x.cps.toList.length by omega)
   exact ⟨c,hc,by rw [(uni c (cc c hc).1).2.1];simp [(cc c hc).2]⟩
  ·rw [(uni c (cc c hc).1).2.2.1,(uni c (cc c hc).1).2.2.2]
   have:=(cc c hc).2
   simp;omega
structure nW (mg:Str->Option Value):Prop where
 ml:∃ t,mg "MOST_LETTERS" = some (.int 8 t)
 mf:∃ t,mg "MOST_FIELDS" = some (.int 4 t)
 lim:∃ t,mg "LIMIT" = some (.int 999999 t)
def mU:Sp:=fun vs H Q _=>∃ x:Str,vs=[.str x]/\x.length≤sizeLine/\Q (.bl (nameB x)) H
theorem VR:aN ["text"] ["text"] (aA (top 14)):=by ext
theorem oN (F:fK K "is_name" "is_name" (top 14) f fd) (T:Txt K mg) (TK:nW mg):aJ P w K mg base bB 1 f fd ["text"] mU:=by
 refine F.ok VR (by ext) fun cdv A outer s H vs Q E hr h=>?_
 obtain ⟨x,rfl,hl,k⟩:=h
 obtain ⟨t8,m8⟩:=TK.ml
 refine ⟨_,(aq
 (aD (cY (cU gJ (aP d_ (by rfl) T.len cM (aa (pv 0) aj)) (bj (v:=.int 8) rfl m8 ⟨_,rfl⟩) (aQ _)) (cY (uK PySem.F.plainAttrs_str PySem.F.slot_str_isascii PySem.F.type_str_isascii uA (pv 0)) (cY (uK PySem.F.plainAttrs_str PySem.F.slot_str_isalpha PySem.F.type_str_isalpha tL (pv 0)) (eV (uK PySem.F.plainAttrs_str PySem.F.slot_str_islower PySem.F.type_str_islower uq (pv 0)))))))),?_⟩
 refine ⟨_,rfl,x,rfl,hl,_,_,rfl,rfl,_,rfl,?_⟩
 unfold nameB at k
 by_cases h8:x.length≤8
 ·refine cL (by simp;omega) ⟨_,rfl,rfl,x,rfl,rfl,_,rfl,?_⟩
  rw [decide_eq_true h8,Bool.true_and] at k
  cases h1:x.cps.all (·<128) with
  |false=>rw [h1] at k;exact cg h1 k
  | true=>
    rw [h1,Bool.true_and] at k
    refine cL h1 ⟨_,rfl,rfl,x,rfl,rfl,_,rfl,?_⟩
    cases h2:(x.length > 0 && x.cps.all Unicode.isAlpha) with
    |false=>rw [h2] at k;exact cg h2 k
    | true=>
      rw [h2,Bool.true_and] at k
      exact cL h2 ⟨_,rfl,rfl,x,rfl,rfl,k⟩
 ·refine cg (by simp;omega) ?_
  rw [decide_eq_false h8,Bool.false_and] at k
  exact k
def jP:Sp:=fun vs H Q _=>∃ x:Str,vs=[.str x]/\Nm x/\Q .non H
theorem VN:aN ["text"] ["text"] (aA (top 15)):=by ext
theorem lO (F:fK K "need_name" "need_name" (top 15) f fd) (T:Txt K mg) (TK:nW mg) (DI:cj K mg "is_name" (top 14) ["text"] fI fdI):aJ P w K mg base bB 2 f fd ["text"] jP:=by
 have GI:aJ P w K mg base bB 1 fI fdI ["text"] mU:=oN DI.F T TK
 refine F.ok VN (by ext) fun cdv A outer s H vs Q E hr h=>?_
 obtain ⟨x,rfl,nm,k⟩:=h
 refine ⟨_,(aq (aZ (gA (dO (b_ DI GI hr (aa (pv 0) aj)))) (aq cC) aK)),?_⟩
 refine ⟨_,rfl,x,rfl,Nat.le_trans nm.hi (by decide),_,rfl,?_⟩
 rw [(cG x).mpr nm]
 exact cg rfl k
def kE:Sp:=fun vs H Q _=>∃ (a:Addr) (xs:List V) (fs:List gr),vs=[.ref a]/\H a=some (.tup xs)/\Paired (iV H) xs fs/\fs.length≤60/\(∀ f∈fs,nC f)/\(fs.map (·.1)).Nodup/\∀ H',az H H'->Q .non H'
theorem cH {α β:Type} {F:α->β->Prop}:∀ {xs:List α} {ys:List β} {i:Nat} {x:α},Paired F xs ys->xs[i]?=some x->∃ y,ys[i]?=some y/\F x y
 |_,_,_,_,.nil,e=>by simp at e
 |_,_,0,_,.cons r _,e=>by simp at e;subst e;exact ⟨_,rfl,r⟩
 | _,_,i+1,x,.cons _ t,e=>by
   obtain ⟨y,h1,h2⟩:=cH (i:=i) (x:=x) t (by simpa using e)
   exact ⟨y,by simpa using h1,h2⟩
theorem yD:aN ["fields","seen","name","low","high"] ["fields"] (aA (top 16)):=by ext
theorem nZ (F:fK K "need_fields" "need_fields" (top 16) f fd) (T:Txt K mg) (TK':nW mg) (DI:cj K mg "is_name" (top 14) ["text"] fI fdI) (DN:cj K mg "need_name" (top 15) ["text"] fN fdN):aJ P w K mg base bB 3 f fd ["fields"] kE:=by
 have GN:aJ P w K mg base bB 2 fN fdN ["text"] jP:=lO DN.F T TK' DI
 refine F.ok yD (by ext) fun cdv A outer s H vs Q E hr h=>?_
 obtain ⟨a,xs,fs,rfl,ha,pf,hl,hf,nd,k⟩:=h
 obtain ⟨tl,ml⟩:=TK'.lim
 refine ⟨_,(ak
 (aU (i:=1) yD.nd rfl (.inl rfl) (bL aj))
 (aq
 (dj PassesOwn.never rfl (iK (pv 0)) (cQ rfl (aM (aC (i:=2) yD.nd rfl (.inl rfl)) (aM (aC (i:=3) yD.nd rfl (.inl rfl)) (aM (aC (i:=4) yD.nd rfl (.inl rfl)) cA))))
 (ak (bU (b_ DN GN hr (aa (pv 2) aj)))
 (ak (aZ (aG jm (pv 2) (pv 1) rfl) (aq cC) aK)
 (ak (aZ (gA (yo gJ gJ gJ (pF lJ (bj (v:=.int 999999) rfl ml ⟨_,rfl⟩)) (pv 3) (pv 4) (bj (v:=.int 999999) rfl ml ⟨_,rfl⟩))) (aq cC) aK)
 (aq (bU (gB PySem.F.plainAttrs_list PySem.F.slot_list_append PySem.F.type_list_append dJ (pv 1) (aa (pv 2) aj)))))))))),?_⟩
 refine ⟨(by ext),fun q hq=>?_⟩
 have pl:=Paired.length pf
 have ha':∀ {H':Hp},az H H'->H' a=some (.tup xs):=fun e=>e _ _ ha
 refine ⟨_,rfl,a,rfl,⟨_,bI.of (ha' (az.new hq))⟩,m6 (K:=K) (a:=a) (xs:=xs) (fun i σ H1=>∃ (b c d:Option V),σ=[some (.ref a),some (.ref q),b,c,d]/\H1 q=some (.lst (((fs.map (·.1)).take i).map V.str))/\az H H1)
  ⟨none,none,none,rfl,by rw [ao];simp,az.new hq⟩ (fun i σ H1 _ ⟨_,_,_,_,_,e⟩=>bI.of (ha' e)) ?_ ?_⟩
 ·rintro i x σ H1 hi ⟨b,c,d,rfl,e1,s1⟩
  obtain ⟨⟨n,lo,hi'⟩,hfi,b',rfl,hb⟩:=cH pf hi
  have fo:=hf _ (List.mem_of_getElem? hfi)
  have hil:i<fs.length:=(List.getElem?_eq_some_iff.mp hfi).1
  refine ⟨b',_,rfl,bI.of (s1 _ _ hb),rfl,_,_,rfl,_,_,rfl,_,_,rfl,rfl,?_⟩
  refine ⟨_,rfl,n,rfl,fo.nm,?_⟩
  have hnot:n∉(fs.map (·.1)).take i:=by
   intro hm
   have h1:(fs.map (·.1))[i]?=some n:=by rw [List.getElem?_map,hfi];rfl
   obtain ⟨j,hj,e⟩:=List.getElem_of_mem hm
   rw [List.length_take] at hj
   rw [List.getElem_take] at e
   have h2:(fs.map (·.1))[j]?=some n:=by rw [List.getElem?_eq_getElem (by omega),e]
   have:=mO nd h1 h2
   omega
  refine ⟨_,rfl,_,rfl,q,_,rfl,.inl (bD.of e1),rfl,?_,_,rfl,?_⟩
  ·rw [List.all_eq_true]
   intro v hv
   obtain ⟨y,_,rfl⟩:=List.mem_map.mp hv
   rfl
  refine cg ?_ ?_
  ·show inV (.str n) _=false
   unfold inV
   rw [List.any_map,List.any_eq_false]
   intro y hy hy2
   have:y=n:=by simpa [vg] using hy2
   exact hnot (this ▸ hy)
  have f1:=fo.lo
  have f2:=fo.le
  have f3:=fo.hi
  refine ⟨_,rfl,_,rfl,_,_,rfl,rfl,_,rfl,cL (by simpa using f1) ?_⟩
  refine ⟨_,rfl,_,_,rfl,rfl,_,rfl,cL (by simpa using f2) ?_⟩
  refine ⟨_,_,rfl,rfl,_,rfl,cg (by simpa using f3) ?_⟩
  have lt:((fs.map (·.1)).take i).length≤60:=by rw [List.length_take,List.length_map];omega
  refine ⟨_,rfl,.inl ⟨rfl,_,bD.of e1⟩,_,rfl,q,_,_,rfl,rfl,e1,by rw [List.length_map];exact eX (by omega),?_⟩
  refine ⟨_,_,_,rfl,?_,fun c o e=>by rw [aH (aB e hq)];exact s1 c o e⟩
  rw [ao,List.take_add_one,List.getElem?_map,hfi]
  simp
 ·rintro σ H1 ⟨b,c,d,rfl,e1,s1⟩
  exact k H1 s1
structure yg (K:PySem.W.Frag) (x qual:Str) (st:Stmt) (dV:Value) (f:Addr) (fd:FuncData):Prop where
 ex:∃ (oc:Value) (od:Option Addr) (kV doc pm:Value) (an:Option Addr) (cdv ct:Value) (osl:Array (Option Value)),
  fd=PySem.W.fnOf x qual (eE st) (dN st) (aA st) dV kV doc pm an cdv ct/\K.lookup f=some ⟨oc,od,.func fd,osl⟩/\PySem.W.codeIn K cdv qual=true
 kp:PySem.W.keepIn K (.ref f)=true
section
variable {P:Program} {w:World} {K:PySem.W.Frag} {mg:Str->Option Value} {base:Heap}
theorem yg.ok (F:yg K x qual st dV f fd) (S:aN N ps (aA st)) (len:∀ vs H Q E,sp vs H Q E->vs.length=ps.length)
 (hbody:∀ (cdv:Value) (A:Around) (outer:List Env) (s:Shared) (H:Hp) (vs:List V) (Q:VK) (E:XK),bH k (A.deeper (PyProof.Rows.envOfC qual (aA st) s.heap.objs.size f cdv))->sp vs H Q E->
  ∃ t,u_ (uL bB P w K mg base N qual (aA st) f cdv A outer s H E).nox (dN st) t/\t { nx:=fun _ H'=>Q .non H',rt:=Q } (L2.start N vs) H):aJ P w K mg base bB (k+1) f fd ps sp:=by
 obtain ⟨oc,od,kV,doc,pm,an,cdv,ct,osl,rfl,lk,hcd⟩:=F.ex
 refine FP lk hcd S len fun A outer s H vs Q E hr hsp=>?_
 obtain ⟨t,h,q⟩:=hbody cdv A outer s H vs Q E hr hsp
 exact ⟨t,h.nox,q⟩
theorem yg.binds (F:yg K x qual st (.ref T) f fd) (hT:K.lookup T=some oT) (hd:oT.data=.seq items n)
 (h:∀ (kV doc pm:Value) (an:Option Addr) (cdv ct:Value) (s:Shared) (us:List Value),s.heap.get? T=some oT->(us++ds).length=ps.length->BindsTo s (PySem.W.fnOf x qual (eE st) (dN st) (aA st) (.ref T) kV doc pm an cdv ct) ⟨us,[]⟩ (ps.zip (us++ds))):Binds K fd ps ds:=by
 obtain ⟨oc,od,kV,doc,pm,an,cdv,ct,osl,rfl,lk,hcd⟩:=F.ex
 exact fun s us X hl=>h kV doc pm an cdv ct s us (X _ _ hT) hl
abbrev rm:Stmt:=inClass (top 18) 0
theorem zy (hd:oT.data=.seq #[d0] n) (kV doc pm:Value) (an:Option Addr) (cdv ct:Value) (s:Shared) (us:List Value) (hT:s.heap.get? T=some oT) (h:(us++[]).length=(["self","name","fields"]:List Str).length) :
 BindsTo s (PySem.W.fnOf "__init__" "Kind.__init__" (eE rm) (dN rm) (aA rm) (.ref T) kV doc pm an cdv ct) ⟨us,[]⟩ ((["self","name","fields"]:List Str).zip (us++[])):=by
 rw [List.append_nil] at h ⊢
 match us,h with
 |[a,b,c],_=>exact BindsTo.of_defaults rfl hT hd rfl rfl
structure KCls (K:PySem.W.Frag) (mg:Str->Option Value) (C:Addr):Prop where
 cl:Bo K C
 nN:j6 K C "name"
 nF:j6 K C "fields"
 mg:mg "Kind" = some (.ref C)
theorem nf:¬ (("name" : Str) = "fields"):=by ext
def kf (n:Str) (a:Addr):List (Str×V):=iU "fields" (.ref a) (iU "name" (.str n) [])
theorem Cu (n:Str) (a:Addr):(kf n a).lookup ("name" : Str)=some (.str n):=by
 unfold kf
 rw [dC,if_neg nf,dC,if_pos rfl]
theorem jj (n:Str) (a:Addr):(kf n a).lookup ("fields" : Str)=some (.ref a):=by
 unfold kf
 rw [dC,if_pos rfl]
theorem Gx (n:Str) (a:Addr) {m:Str} (h1:¬ m = "fields") (h2:¬ m = "name"):(kf n a).lookup m=none:=by
 unfold kf
 rw [dC,if_neg h1,dC,if_neg h2]
 rfl
structure dw (C:Addr) (H:Hp) (o:Addr) (n:Str) (a:Addr) (fs:List gr):Prop where
 ob:∃ dx,H o=some (.ins C dx (kf n a))
 tp:∃ xs,H a=some (.tup xs)/\Paired (iV H) xs fs
def Aj (C:Addr):Sp:=fun vs H Q _=>∃ (o dx a:Addr) (n:Str) (xs:List V) (fs:List gr),vs=[.ref o,.str n,.ref a]/\H o=some (.ins C dx [])/\Nm n/\H a=some (.tup xs)/\Paired (iV H) xs fs/\fs.length≤4/\(∀ f∈fs,nC f)/\(fs.map (·.1)).Nodup/\
 ∀ H',dw C H' o n a fs->(∀ b u,H b=some u->b≠o->H' b=some u)->Q .non H'
theorem UW:aN ["self","name","fields"] ["self","name","fields"] (aA rm):=by ext
theorem Cw (F:yg K "__init__" "Kind.__init__" rm dV f fd) (T:Txt K mg) (TK':nW mg) (KC:KCls K mg C) (DI:cj K mg "is_name" (top 14) ["text"] fI fdI) (DN:cj K mg "need_name" (top 15) ["text"] fN fdN)
 (DF:cj K mg "need_fields" (top 16) ["fields"] fF fdF):aJ P w K mg base bB 4 f fd ["self","name","fields"] (Aj C):=by
 have GN:aJ P w K mg base bB 2 fN fdN ["text"] jP:=lO DN.F T TK' DI
 have GF:aJ P w K mg base bB 3 fF fdF ["fields"] kE:=nZ DF.F T TK' DI DN
 refine F.ok UW (by ext) fun cdv A outer s H vs Q E hr h=>?_
 obtain ⟨o,dx,a,n,xs,fs,rfl,ho,hn,ha,pf,hl,hf,nd,k⟩:=h
 obtain ⟨tf,mf⟩:=TK'.mf
 have hr2:bH 2 _:=hr.mono (by decide)
 have pl:=Paired.length pf
 refine ⟨_,(ak
 (bU (b_ DN GN hr2 (aa (pv 1) aj)))
 (ak
 (aZ (aG uX (aP bx (by rfl) T.len cM (aa (pv 2) aj)) (bj (v:=.int 4) rfl mf ⟨_,rfl⟩) (aQ _)) (aq cC) aK)
 (ak
 (bU (b_ DF GF hr (aa (pv 2) aj)))
 (ak
 (Ab (pv 0) (pv 1) rfl)
 (aq
 (Ab (pv 0) (eG gU (by rfl) T.tuple iw (aa (pv 2) aj)) rfl)))))),?_⟩
 refine ⟨_,rfl,n,rfl,hn,?_⟩
 refine ⟨_,rfl,a,xs,rfl,.inr (bI.of ha),_,_,rfl,rfl,_,rfl,cg (by simp;omega) ?_⟩
 refine ⟨_,rfl,a,xs,fs,rfl,ha,pf,by omega,hf,nd,fun H1 s1=>?_⟩
 refine ⟨_,rfl,_,rfl,o,C,dx,[],rfl,s1 _ _ ho,KC.cl,KC.nN,(show 0<1000 by decide),?_⟩
 have nao:a≠o:=fc ha ho (by intro z;cases z)
 have ha1:∀ u,(upd H1 o u) a=some (.tup xs):=fun u=>by rw [aH nao];exact s1 _ _ ha
 refine ⟨_,rfl,a,xs,rfl,.inr ⟨bI.of (ha1 _),?_⟩⟩
 refine ⟨_,rfl,o,C,dx,_,rfl,ao,KC.cl,KC.nF,(show 1<1000 by decide),?_⟩
 have keep:∀ b u,H b=some u->b≠o->(upd (upd H1 o (.ins C dx (iU "name" (.str n) []))) o (.ins C dx (kf n a))) b=some u:=fun b u e hb=>by
  rw [aH hb,aH hb];exact s1 _ _ e
 refine k _ ⟨⟨dx,ao⟩,xs,keep a _ ha nao,gf pf fun b ys e=>keep b _ e (fc e ho (by intro z;cases z))⟩ keep
end
theorem dw.same (h:dw C H o n a fs) (e:az H H'):dw C H' o n a fs:=by
 obtain ⟨⟨dx,h1⟩,xs,h2,h3⟩:=h
 exact ⟨⟨dx,e _ _ h1⟩,xs,e _ _ h2,gf h3 fun b ys z=>e _ _ z⟩
def Vh (K:PySem.W.Frag):TG:=Ci K 3 (lM (bh 0) (lM (bh 1) (lM (bh 2) Bt)))
abbrev kM (j:Nat):Stmt:=inClass (top 18) j
def qI (fs:List gr) (x:Str):V:=if x∈fs.map (·.1) then .int ((fs.map (·.1)).idxOf x:Nat) else .non
def vC (C:Addr):Sp:=fun vs H Q _=>∃ (o a:Addr) (n x:Str) (fs:List gr),vs=[.ref o,.str x]/\dw C H o n a fs/\fs.length≤4/\∀ H',az H H'->Q (qI fs x) H'
theorem Ba:aN ["self","field","at","name","low","high"] ["self","field"] (aA (kM 3)):=by ext
theorem Ai (F:fK K "place_of" "Kind.place_of" (kM 3) f fd) (T:Txt K mg) (hen:mg "enumerate" = none) (KC:KCls K mg C):aJ P w K mg base bB 1 f fd ["self","field"] (vC C):=by
 refine F.ok Ba (by ext) fun cdv A outer s H vs Q E hr h=>?_
 obtain ⟨o,a,n,x,fs,rfl,⟨⟨dx,ho⟩,xs,ha,pf⟩,hl,k⟩:=h
 have pl:=Paired.length pf
 refine ⟨_,(ak
 (dj PassesOwn.never rfl (yG rfl hen gh (aa (nT (pv 0) rfl) aj)) (cQ rfl (aM (aC (i:=2) Ba.nd rfl (.inl rfl)) (aM (cQ rfl (aM (aC (i:=3) Ba.nd rfl (.inl rfl)) (aM (aC (i:=4) Ba.nd rfl (.inl rfl)) (aM (aC (i:=5) Ba.nd rfl (.inl rfl)) cA)))) cA))) (aq
 (aZ (aG bQ (pv 3) (pv 1) (aQ _)) (aq
 (aD (pv 2))) aK)))
 (aq
 (aD lG))),?_⟩
 refine ⟨_,rfl,o,C,dx,_,_,rfl,ho,KC.cl,KC.nF,jj n a,a,rfl,⟨xs,bI.of ha⟩,xF (K:=K) (a:=a) (xs:=xs) (fun i σ H1=>(∃ u1 u2 u3 u4,σ=[some (.ref o),some (.str x),u1,u2,u3,u4])/\az H H1/\x∉(fs.map (·.1)).take i) ⟨⟨none,none,none,none,rfl⟩,az.refl _,by simp⟩ (fun i σ H1 _ z=>bI.of (z.2.1 _ _ ha)) ?_ ?_⟩
 ·rintro i y σ H1 p hy ⟨⟨u1,u2,u3,u4,rfl⟩,s1,hn⟩ hp
  obtain ⟨⟨m,lo,hi⟩,hfi,b,rfl,hb⟩:=cH pf hy
  have s2:az H (upd H1 p (.tup [.int i,.ref b])):=s1.trans (az.new hp)
  refine ⟨p,_,rfl,bI.of ao,rfl,_,_,rfl,_,_,rfl,b,_,rfl,bI.of (s2 _ _ hb),rfl,_,_,rfl,_,_,rfl,_,_,rfl,rfl,rfl,?_⟩
  refine ⟨_,rfl,_,rfl,rfl,_,rfl,?_⟩
  have hmi:(fs.map (·.1))[i]?=some m:=by rw [List.getElem?_map,hfi];rfl
  by_cases e:m=x
  ·subst e
   refine cL (by simp) ⟨_,rfl,?_⟩
   have hmem:m∈fs.map (·.1):=List.mem_of_getElem? hmi
   have hix:(fs.map (·.1)).idxOf m=i:=by
    have hil:=(List.getElem?_eq_some_iff.mp hmi).1
    have hgt:¬ (fs.map (·.1)).idxOf m<i:=fun z=>hn (by
     rw [List.mem_iff_getElem?]
     refine ⟨(fs.map (·.1)).idxOf m,?_⟩
     rw [List.getElem?_take,if_pos z,List.getElem?_eq_getElem (by omega),List.getElem_idxOf])
    have hlt:¬ i<(fs.map (·.1)).idxOf m:=fun z=>by
     have:=List.not_of_lt_findIdx (p:=(· == m)) (xs:=fs.map (·.1)) z
     rw [(List.getElem?_eq_some_iff.mp hmi).2] at this
     simp at this
    omega
   have:=k _ s2
   unfold qI at this
   rw [if_pos hmem,hix] at this
   exact this
  ·refine cg (by simp [e]) ⟨⟨_,_,_,_,rfl⟩,s2,?_⟩
   rw [List.take_add_one,hmi]
   simp only [Option.toList_some,List.mem_append,List.mem_singleton,not_or]
   exact ⟨hn,fun z=>e z.symm⟩
 ·rintro σ H1 ⟨⟨u1,u2,u3,u4,rfl⟩,s1,hn⟩
  have:=k _ s1
  unfold qI at this
  rw [List.take_of_length_le (by rw [List.length_map];omega)] at hn
  rw [if_neg hn] at this
  exact this
end Cm
namespace Cm
open PySem L2 PySem.W
theorem dI (h:az H H1) (n:H1 e=none):H e=none:=by
 cases z:H e with
 |none=>rfl
 |some o=>have:=h _ _ z;rw [n] at this;cases this
abbrev Xr:Int:=1000000000000000000000000000000
def lg (x:Str):Prop:=x.cps.all (·<128)=true
abbrev LK:Int:=Xr+2
inductive TD:PyData->Prop
 |str {x:Str}:lg x->x.length≤40->TD (.str x)
 |int {i:Int}:-LK≤i->i≤LK->TD (.int i)
 |nil:TD (.tuple [])
 |node {f:Str} {r:List PyData}:lg f->f.length≤40->r.length≤20->(∀ d∈r,TD d)->TD (.tuple (.str f::r))
def jG:PyData->Bool
 |.str x=>nameB x
 |_=>false
def qi:PyData->Bool
 |.int i=>decide (-999999≤i) && decide (i≤999999)
 |_=>false
def fQ (f:Str) (r:List PyData):Bool:=
 if f = "all" then r.isEmpty else if f = "is" then (match r with|[x]=>jG x|_=>false)
 else decide (f = "less"∨f = "same") && (match r with|[x,y]=>jG x && qi y|_=>false)
def arity (f:Str):Option Nat:=if f = "not" then some 1 else if f = "and" then some 2 else if f = "or" then some 2 else none
def cnt:Nat->PyData->Nat
 |0,_=>0
 |n+1,.tuple (.str f::r)=>if fQ f r=true then 1 else if arity f=some r.length then (if 0∈r.map (cnt n) then 0 else 1+(r.map (cnt n)).sum) else 0
 |_+1,_=>0
mutual
def bA:PyData->Bool
 |.tuple (.str f::r)=>if f = "and"∨f = "or" then decide (r.length=2) && shapes r else if f = "not" then decide (r.length=1) && shapes r else fQ f r
 |_=>false
def shapes:List PyData->Bool
 |[]=>true
 |d::r=>bA d && shapes r
end
mutual
def aY:PyData->Nat
 |.tuple (.str f::r)=>if (arity f).isSome=true then 1+cB r else 1
 |_=>1
def cB:List PyData->Nat
 |[]=>0
 |d::r=>max (aY d) (cB r)
end
mutual
def bG:PyData->Nat
 |.tuple (.str f::r)=>if (arity f).isSome=true then 1+dX r else 1
 |_=>1
def dX:List PyData->Nat
 |[]=>0
 |d::r=>bG d+dX r
end
def cJ (d:PyData):Bool:=bA d && (decide (aY d≤5) && decide (bG d≤15))
theorem pD:∀ d,1≤bG d:=by
 intro d
 unfold bG
 split
 ·split <;> omega
 ·omega
theorem bT:∀ d,1≤aY d:=by
 intro d
 unfold aY
 split
 ·split <;> omega
 ·omega
theorem tu (h:fQ f r=true):arity f=none:=by
 unfold fQ at h
 unfold arity
 by_cases h1:f = "all"
 ·subst h1;decide +kernel
 ·rw [if_neg h1] at h
  by_cases h2:f = "is"
  ·subst h2;decide +kernel
  ·rw [if_neg h2,Bool.and_eq_true,decide_eq_true_eq] at h
   rcases h.1 with rfl|rfl <;> decide +kernel
theorem ni (k:Nat) (r:List PyData):decide (some k=some r.length)=decide (r.length=k):=by
 simp only [Option.some.injEq,decide_eq_decide]
 exact ⟨fun h=>h.symm,fun h=>h.symm⟩
theorem eN:bA (.tuple (.str f::r))=if arity f=none then fQ f r else decide (arity f=some r.length) && shapes r:=by
 unfold bA
 by_cases h1:f = "and"
 ·subst h1
  rw [show arity "and" = some 2 from by ext,if_pos (.inl rfl),if_neg (show ¬ (some 2=(none:Option Nat)) from nofun),ni]
 ·by_cases h2:f = "or"
  ·subst h2
   rw [show arity "or" = some 2 from by ext,if_pos (.inr rfl),if_neg (show ¬ (some 2=(none:Option Nat)) from nofun),ni]
  ·rw [if_neg (by simp [h1,h2])]
   by_cases h3:f = "not"
   ·subst h3
    rw [show arity "not" = some 1 from by ext,if_pos rfl,if_neg (show ¬ (some 1=(none:Option Nat)) from nofun),ni]
   ·have ha:arity f=none:=by unfold arity;rw [if_neg h3,if_neg h1,if_neg h2]
    rw [ha,if_neg h3,if_pos rfl]
theorem Nh (ih:∀ d,cnt n d=if bA d=true/\aY d≤n then bG d else 0):∀ r:List PyData,(if 0∈r.map (cnt n) then 0 else 1+(r.map (cnt n)).sum)=if shapes r=true/\cB r≤n then 1+dX r else 0
 |[]=>by simp [shapes,cB,dX]
 | d::r=>by
   have h:=Nh ih r
   have hp:=pD d
   rw [List.map_cons,List.sum_cons]
   have es:shapes (d::r)=(bA d && shapes r):=rfl
   have ed:cB (d::r)=max (aY d) (cB r):=rfl
   have ep:dX (d::r)=bG d+dX r:=rfl
   by_cases hd:bA d=true/\aY d≤n
   ·have e:cnt n d=bG d:=by rw [ih,if_pos hd]
    by_cases hr:shapes r=true/\cB r≤n
    ·rw [if_pos hr] at h
     have h0:¬ 0∈r.map (cnt n):=fun z=>by rw [if_pos z] at h;omega
     rw [if_neg h0] at h
     rw [if_neg (by rw [List.mem_cons,not_or,e];exact ⟨by omega,h0⟩),if_pos ⟨by rw [es,hd.1,hr.1];rfl,by rw [ed];omega⟩,e,ep]
     omega
    ·rw [if_neg hr] at h
     have h0:0∈r.map (cnt n):=by
      by_cases z:0∈r.map (cnt n)
      ·exact z
      ·rw [if_neg z] at h;omega
     rw [if_pos (List.mem_cons_of_mem _ h0),if_neg]
     rintro ⟨z1,z2⟩
     rw [es,Bool.and_eq_true] at z1
     rw [ed] at z2
     exact hr ⟨z1.2,by omega⟩
   ·have e:cnt n d=0:=by rw [ih,if_neg hd]
    rw [if_pos (by rw [e];exact List.mem_cons_self ..),if_neg]
    rintro ⟨z1,z2⟩
    rw [es,Bool.and_eq_true] at z1
    rw [ed] at z2
    exact hd ⟨z1.1,by omega⟩
theorem uD:∀ (n:Nat) (d:PyData),cnt n d=if bA d=true/\aY d≤n then bG d else 0
 | 0,d=>by
   have:=bT d
   rw [if_neg (by omega)]
   rfl
 | n+1,d=>by
   have ih:=uD n
   by_cases hd:∃ f r,d=.tuple (.str f::r)
   ·obtain ⟨f,r,rfl⟩:=hd
    have e1:cnt (n+1) (.tuple (.str f::r))=if fQ f r=true then 1 else if arity f=some r.length then (if 0∈r.map (cnt n) then 0 else 1+(r.map (cnt n)).sum) else 0:=rfl
    have e2:aY (.tuple (.str f::r))=if (arity f).isSome=true then 1+cB r else 1:=rfl
    have e3:bG (.tuple (.str f::r))=if (arity f).isSome=true then 1+dX r else 1:=rfl
    have e4:=@eN f r
    by_cases hl:fQ f r=true
    ·have ha:=tu hl
     rw [ha] at e2 e3 e4
     rw [e1,if_pos hl,if_pos ⟨by rw [e4,if_pos rfl];exact hl,by rw [e2];simp⟩,e3]
     rfl
    ·rw [e1,if_neg hl]
     by_cases ha:arity f=none
     ·rw [if_neg (by rw [ha];nofun),if_neg]
      rintro ⟨q,_⟩
      rw [e4,if_pos ha] at q
      exact hl q
     ·obtain ⟨k,hk⟩:=Option.ne_none_iff_exists'.mp ha
      rw [hk] at e2 e3 e4 ⊢
      rw [if_neg (show ¬ (some k=(none:Option Nat)) from nofun)] at e4
      by_cases hkr:k=r.length
      ·subst hkr
       rw [if_pos rfl,Nh ih r]
       by_cases z:shapes r=true/\cB r≤n
       ·rw [if_pos z,if_pos ⟨by rw [e4,z.1];simp,by rw [e2];simp;omega⟩,e3]
        rfl
       ·rw [if_neg z,if_neg]
        rintro ⟨q1,q2⟩
        rw [e4] at q1
        rw [e2] at q2
        simp at q1 q2
        exact z ⟨q1,by omega⟩
      ·rw [if_neg (by simpa using hkr),if_neg]
       rintro ⟨q,_⟩
       rw [e4] at q
       simp [hkr] at q
   ·have e1:cnt (n+1) d=0:=by
     unfold cnt
     split
     ·omega
     ·exact absurd ⟨_,_,rfl⟩ hd
     ·rfl
    have e2:bA d=false:=by
     unfold bA
     split
     ·exact absurd ⟨_,_,rfl⟩ hd
     ·rfl
    rw [e1,e2,if_neg (by simp)]
theorem Eo (d:PyData):(decide (1≤cnt 5 d) && decide (cnt 5 d≤15))=cJ d:=by
 have hp:=pD d
 rw [uD]
 unfold cJ
 by_cases h:bA d=true/\aY d≤5
 ·rw [if_pos h,h.1,decide_eq_true h.2]
  simp [hp]
 ·rw [if_neg h]
  have:(bA d && decide (aY d≤5))=false:=by
   rw [← Bool.not_eq_true,Bool.and_eq_true,decide_eq_true_eq]
   exact h
  rw [← Bool.and_assoc,this]
  rfl
mutual
def gb:PyData->List PyData
 |.tuple (.str f::r)=>if (arity f).isSome=true then dZ r else [.tuple (.str f::r)]
 |d=>[d]
def dZ:List PyData->List PyData
 |[]=>[]
 |d::r=>gb d++dZ r
end
def fu (f:Str):Str:=if f = "less" then "<" else "="
def sI (f:Str) (r:List PyData):Str:=match r with
 |[.str x,.int i]=>x++fu f++(toString i:Str)
 |[.str x]=>"is:"++x
 |_=>"all"
mutual
def txt:PyData->Str
 |.tuple (.str f::r)=>if (arity f).isSome=true then f++"("++Str.join "," (jr r)++")" else sI f r
 |_=>""
def jr:List PyData->List Str
 |[]=>[]
 |d::r=>txt d::jr r
end
section
variable {P:Program} {w:World} {K:PySem.W.Frag} {mg:Str->Option Value} {base:Heap}
def Sw (K:Frag):Sp:=fun vs H Q _=>∃ (x:V) (d:PyData),vs=[x]/\Rep K H x d/\TD d/\Q (.bl (jG d)) H
theorem V2:aN ["thing"] ["thing"] (aA (top 27)):=by ext
theorem QB (F:fK K "is_word" "is_word" (top 27) f fd) (T:Txt K mg) (TK:nW mg) (DN:cj K mg "is_name" (top 14) ["text"] fN fdN):aJ P w K mg base bB 2 f fd ["thing"] (Sw K):=by
 have GN:aJ P w K mg base bB 1 fN fdN ["text"] mU:=oN DN.F T TK
 refine F.ok V2 (by ext) fun cdv A outer s H vs Q E hr h=>?_
 obtain ⟨x,d,rfl,rd,td,k⟩:=h
 refine ⟨_,(aq (aD (cY (aP bY (by rfl) T.isinstance aV (aa (pv 0) (aa (dG rfl T.str mJ) aj))) (eV (b_ DN GN hr (aa (pv 0) aj)))))),?_⟩
 cases td with
 | @str y a l=>
   cases rd
   exact ⟨_,rfl,_,_,_,_,rfl,.str y,rfl,_,rfl,cL rfl ⟨_,rfl,y,rfl,Nat.le_trans l (by decide),k⟩⟩
 | @int i a b=>
   cases rd
   exact ⟨_,rfl,_,_,_,_,rfl,.int i,rfl,_,rfl,cg rfl k⟩
 |nil=>exact ⟨_,rfl,_,_,_,_,rfl,rd,rfl,_,rfl,cg rfl k⟩
 |node a l n z=>exact ⟨_,rfl,_,_,_,_,rfl,rd,rfl,_,rfl,cg rfl k⟩
def MJ (K:Frag):Sp:=fun vs H Q _=>∃ (x:V) (d:PyData),vs=[x]/\Rep K H x d/\TD d/\Q (.bl (qi d)) H
theorem Uz:aN ["thing"] ["thing"] (aA (top 28)):=by ext
theorem Sv (F:fK K "is_number" "is_number" (top 28) f fd) (T:Txt K mg) (TK:nW mg):aJ P w K mg base bB 1 f fd ["thing"] (MJ K):=by
 refine F.ok Uz (by ext) fun cdv A outer s H vs Q E hr h=>?_
 obtain ⟨x,d,rfl,rd,td,k⟩:=h
 obtain ⟨tl,ml⟩:=TK.lim
 refine ⟨_,(aq (aD (cY (aP bY (by rfl) T.isinstance aV (aa (pv 0) (aa (dG rfl T.int lC) aj))) (cY (zf (aP bY (by rfl) T.isinstance aV (aa (pv 0) (aa (dG rfl T.bool eY) aj)))) (eV (mG gJ gJ (pF lJ (bj (v:=.int 999999) rfl ml ⟨_,rfl⟩)) (pv 0) (bj (v:=.int 999999) rfl ml ⟨_,rfl⟩))))))),?_⟩
 cases td with
 | @int i a b=>
   cases rd
   refine ⟨_,rfl,_,_,_,_,rfl,.int i,rfl,_,rfl,cL rfl ⟨_,rfl,_,_,_,_,rfl,.int i,rfl,_,rfl,_,rfl,cL rfl ?_⟩⟩
   exact jW.chain (jW.neg jW.con) (jW.var rfl) jW.con yq.i0 yq.i0 _ k
 | @str y a l=>
   cases rd
   exact ⟨_,rfl,_,_,_,_,rfl,.str y,rfl,_,rfl,cg rfl k⟩
 |nil=>exact ⟨_,rfl,_,_,_,_,rfl,rd,rfl,_,rfl,cg rfl k⟩
 |node a l n z=>exact ⟨_,rfl,_,_,_,_,rfl,rd,rfl,_,rfl,cg rfl k⟩
abbrev dW:List (Str×PyData):=[("not",.int 1),("and",.int 2),("or",.int 2)]
abbrev dS:List (Str×PyData):=[("less",.str "<"),("same",.str "=")]
structure nM (K:Frag) (mg:Str->Option Value) (aW aS:Addr):Prop where
 mw:mg "WITHIN" = some (.ref aW)
 ms:mg "SIGN_OF" = some (.ref aS)
 kw:pW K aW dW
 ks:pW K aS dS
theorem oO (f:Str):iy dW f=(arity f).map fun n=>V.int (n:Nat):=by
 unfold iy arity
 show ((if _ then _ else if _ then _ else if _ then _ else none:Option PyData)).map Ss=_
 by_cases h1:f = "not"
 ·subst h1;rfl
 ·by_cases h2:f = "and"
  ·subst h2;rfl
  ·by_cases h3:f = "or"
   ·subst h3;rfl
   ·simp [h1,h2,h3]
theorem rH (f:Str):iy dS f=if f = "less" then some (.str "<") else if f = "same" then some (.str "=") else none:=by
 unfold iy
 show ((if _ then _ else if _ then _ else none:Option PyData)).map Ss=_
 by_cases h1:f = "less"
 ·subst h1;rfl
 ·by_cases h2:f = "same"
  ·subst h2;rfl
  ·simp [h1,h2]
def HW (K:Frag):Sp:=fun vs H Q _=>∃ (a:Addr) (f:Str) (r:List PyData),vs=[.ref a]/\Rep K H (.ref a) (.tuple (.str f::r))/\TD (.tuple (.str f::r))/\Q (.bl (fQ f r)) H
theorem R_:aN ["test","form"] ["test"] (aA (top 29)):=by ext
theorem Gg (F:fK K "is_leaf" "is_leaf" (top 29) f fd) (T:Txt K mg) (TK:nW mg) (TB:nM K mg aW aS) (DI:cj K mg "is_name" (top 14) ["text"] fI fdI) (DW:cj K mg "is_word" (top 27) ["thing"] fW fdW) (DN:cj K mg "is_number" (top 28) ["thing"] fN fdN):aJ P w K mg base bB 3 f fd ["test"] (HW K):=by
 have GW:aJ P w K mg base bB 2 fW fdW ["thing"] (Sw K):=QB DW.F T TK DI
 have GN:aJ P w K mg base bB 1 fN fdN ["thing"] (MJ K):=Sv DN.F T TK
 refine F.ok R_ (by ext) fun cdv A outer s H vs Q E hr h=>?_
 obtain ⟨a,f,r,rfl,rd,td,k⟩:=h
 have hr1:bH 1 _:=hr.mono (by decide)
 refine ⟨_,(ak (aU (i:=1) R_.nd rfl (.inl rfl) (a_ bz (pv 0) au (fun _ _=>rfl)))
  (ak (aZ (aG bQ (pv 1) aO (aQ _)) (aq (aD (cU bQ (aP bx (by rfl) T.len cM (aa (pv 0) aj)) au (aQ _)))) aK)
  (ak (aZ (aG bQ (pv 1) aO (aQ _)) (aq (aD (cY (cU bQ (aP bx (by rfl) T.len cM (aa (pv 0) aj)) au (aQ _)) (eV (b_ DW GW hr (aa (a_ bz (pv 0) au (fun _ _=>rfl)) aj)))))) aK)
  (aq (aD (cY (cU ir (pv 1) (bj (v:=.ref aS) rfl TB.ms rfl) rfl) (cY (cU bQ (aP bx (by rfl) T.len cM (aa (pv 0) aj)) au (aQ _)) (cY (b_ DW GW hr (aa (a_ bz (pv 0) au (fun _ _=>rfl)) aj)) (eV (b_ DN GN hr1 (aa (a_ bz (pv 0) au (fun _ _=>rfl)) aj))))))))))),?_⟩
 cases td with
 |node af lf nr tr=>
 cases rd with
 |@tup _ xs _ sq rs=>
 obtain ⟨x0,ys,rfl⟩:∃ x0 ys,xs=x0::ys:=by cases rs;exact ⟨_,_,rfl⟩
 obtain ⟨r0,rt⟩:Rep K H x0 (.str f)/\bF K H ys r:=by cases rs with|cons a b=>exact ⟨a,b⟩
 cases r0
 have hl:=rt.length
 refine ⟨_,rfl,a,_,_,_,rfl,rfl,sq,aL (j:=0) rfl,_,rfl,rfl,_,rfl,?_⟩
 unfold fQ at k
 by_cases h1:f = "all"
 ·subst h1
  rw [if_pos rfl] at k
  refine cL (by simp) ⟨_,rfl,a,_,rfl,.inr sq,rfl,?_⟩
  have e:decide (V.int ((V.str "all"::ys).length:Nat)=V.int 1)=r.isEmpty:=by
   rw [Bool.eq_iff_iff,decide_eq_true_eq,List.isEmpty_iff,List.length_cons,V.int.injEq]
   constructor
   ·intro h
    exact List.length_eq_zero_iff.mp (by omega)
   ·rintro rfl
    simp at hl
    simp [hl]
  rw [e]
  exact k
 ·rw [if_neg h1] at k
  refine cg (by simp [h1]) ⟨_,rfl,rfl,_,rfl,?_⟩
  by_cases h2:f = "is"
  ·subst h2
   rw [if_pos rfl] at k
   refine cL (by simp) ⟨_,rfl,a,_,rfl,.inr sq,rfl,_,rfl,?_⟩
   match r,ys,rt,k,hl with
   |[],[],_,k,_=>exact cg (by simp) k
   |[d],[y],.cons ry .nil,k,_=>exact cL (by simp) ⟨_,rfl,a,_,_,_,rfl,rfl,sq,aL (j:=1) rfl,y,d,rfl,ry,tr d (List.mem_cons_self ..),k⟩
   |_::_::_,_::_::_,_,k,_=>exact cg (by simp;omega) k
  ·rw [if_neg h2] at k
   refine cg (by simp [h2]) ⟨_,rfl,f,aS,dS,rfl,rfl,TB.ks,_,rfl,?_⟩
   have e:(if false=true then !(iy dS f).isSome else (iy dS f).isSome)=decide (f = "less"∨f = "same"):=by
    rw [rH]
    by_cases q1:f = "less"
    ·simp [q1]
    ·by_cases q2:f = "same"
     ·rw [if_neg q1,if_pos q2];simp [q2]
     ·simp [q1,q2]
   rw [e]
   by_cases h3:f = "less"∨f = "same"
   ·rw [decide_eq_true h3,Bool.true_and] at k
    refine cL (by simp [h3]) ⟨_,rfl,a,_,rfl,.inr sq,rfl,_,rfl,?_⟩
    match r,ys,rt,k,hl with
    |[],[],_,k,_=>exact cg (by simp) k
    |[d],[y],_,k,_=>exact cg (by simp) k
    | [d,d2],[y,y2],.cons ry (.cons ry2 .nil),k,_=>
      refine cL (by simp) ⟨_,rfl,a,_,_,_,rfl,rfl,sq,aL (j:=1) rfl,y,d,rfl,ry,tr d (List.mem_cons_self ..),_,rfl,?_⟩
      have k:Q (.bl (jG d && qi d2)) H:=k
      cases hw:jG d with
      |false=>rw [hw] at k;exact cg rfl k
      | true=>
        rw [hw] at k
        exact cL rfl ⟨_,rfl,a,_,_,_,rfl,rfl,sq,aL (j:=2) rfl,y2,d2,rfl,ry2,tr d2 (List.mem_cons_of_mem _ (List.mem_cons_self ..)),k⟩
    |_::_::_::_,_::_::_::_,_,k,_=>exact cg (by simp;omega) k
   ·rw [decide_eq_false h3,Bool.false_and] at k
    exact cg (by simp [h3]) k
end
theorem dh (h:arity f=some k):1≤k/\k≤2:=by
 unfold arity at h
 split at h
 ·cases h;omega
 ·split at h
  ·cases h;omega
  ·split at h
   ·cases h;omega
   ·cases h
theorem uI:∀ (n:Nat) (d:PyData),cnt n d+1≤2 ^ n
 |0,_=>by simp [cnt]
 | n+1,d=>by
   have ih:=uI n
   have p:1≤2 ^ n:=Nat.one_le_two_pow
   rw [Nat.pow_succ]
   by_cases hd:∃ f r,d=.tuple (.str f::r)
   ·obtain ⟨f,r,rfl⟩:=hd
    show (if fQ f r=true then 1 else if arity f=some r.length then (if 0∈r.map (cnt n) then 0 else 1+(r.map (cnt n)).sum) else 0)+1≤_
    split
    ·omega
    ·split
     ·rename_i h
      split
      ·omega
      ·have a:=dh h
       match r,a with
       |[x],_=>have:=ih x;simp;omega
       |[x,y],_=>have:=ih x;have:=ih y;simp;omega
       |_::_::_::_,a=>simp at a
       |[],a=>simp at a
     ·omega
   ·have e:cnt (n+1) d=0:=by
     unfold cnt
     split
     ·omega
     ·exact absurd ⟨_,_,rfl⟩ hd
     ·rfl
    omega
theorem qP (g:PyData->Nat) (r:List PyData):(r.map fun d=>((g d:Nat):Int)).sum=(((r.map g).sum:Nat):Int):=by
 induction r with
 |nil=>rfl
 |cons d r ih=>rw [List.map_cons,List.map_cons,List.sum_cons,List.sum_cons,ih];omega
def Bk (K:Frag) (n:Nat):Sp:=fun vs H Q _=>∃ (x:V) (d:PyData),vs=[x,.int (n:Nat)]/\Rep K H x d/\TD d/\∀ H',az H H'->Q (.int (cnt n d:Nat)) H'
abbrev WF:List Str:=["thing","deep","counts"]
theorem O1:aN WF ["thing","deep"] (aA (top 30)):=by ext
theorem m5:jq (x::xs) (some 1) none=xs:=by
 simp [jq,HT.eF]
theorem RN (DC:cj K mg "count_parts" (top 30) ["thing","deep"] f fd) (T:Txt K mg) (hsum:mg "sum" = none) (TK:nW mg) (TB:nM K mg aW aS) (DI:cj K mg "is_name" (top 14) ["text"] fI fdI) (DW:cj K mg "is_word" (top 27) ["thing"] fW fdW) (DN:cj K mg "is_number" (top 28) ["thing"] fN fdN)
 (DL:cj K mg "is_leaf" (top 29) ["test"] fL fdL) (n:Nat) (hn5:n≤20):aJ P w K mg base bB (n+4) f fd ["thing","deep"] (Bk K n):=by
 have GL:aJ P w K mg base bB 3 fL fdL ["test"] (HW K):=Gg DL.F T TK TB DI DW DN
 have main:∀ m k:Nat,m≤20->(∀ n,n+1=m->aJ P w K mg base bB (n+4) f fd ["thing","deep"] (Bk K n))->aJ P w K mg base bB (m+4) f fd ["thing","deep"] (Bk K m):=by
  intro m k0 hm GC
  refine DC.F.ok O1 (fun vs H Q E h=>?_) (fun cdv A outer s H vs Q E hr h=>?_)
  ·obtain ⟨x,d,rfl,_⟩:=h
   rfl
  ·obtain ⟨x,d,rfl,rd,td,k⟩:=h
   have hr3:bH 3 _:=hr.mono (by omega)
   have GC':aJ P w K mg base bB (m+3) f fd ["thing","deep"] (fun vs H Q E=>∃ n,n+1=m/\Bk K n vs H Q E):=by
    match m,GC with
    |0,_=>exact ⟨fun _ _ _ _ ⟨n,e,_⟩=>by omega,fun _ _ _ _ _ _ _ _ _ _ _ _ _ ⟨n,e,_⟩=>by omega⟩
    | m+1,GC=>
      have G:=GC m rfl
      exact ⟨fun vs H Q E ⟨n,e,h⟩=>by cases e;exact G.1 vs H Q E h,fun a1 a2 a3 a4 a5 a6 a7 a8 a9 a10 a11 a12 a13 ⟨n,e,h⟩=>by cases e;exact G.2 a1 a2 a3 a4 a5 a6 a7 a8 a9 a10 a11 a12 a13 h⟩
   refine ⟨_,(ak (aZ (PW.pt (nD (aG bQ (pv 1) au (aQ _)) (nD (gA (dO (aP bY (by rfl) T.isinstance aV (aa (pv 0) (aa (dG rfl T.tuple iw) aj))))) (lK (aG bQ (aP bx (by rfl) T.len cM (aa (pv 0) aj)) au (aQ _)))))) (aq (aD au)) aK)
    (ak (aZ (dO (b_ DL GL hr3 (aa (pv 0) aj))) (aq (aD au)) aK)
    (ak (aZ (aG j8 (wG (bj (v:=.ref aW) rfl TB.mw rfl) (a_ bz (pv 0) au (fun _ _=>rfl)) ⟨rfl,rfl,rfl,rfl⟩) (aX fU (aP bx (by rfl) T.len cM (aa (pv 0) aj)) au) (aQ _)) (aq (aD au)) aK)
    (ak (iC (g:=bh 0) (i:=2) (own:=["part"]) (js:=[1]) (N':=["part","deep"]) (bw.of (osc:=aA (top 30)) (N:=WF) rfl rfl (by ext)) rfl O1.nd rfl rfl (iK (cD iD (pv 0) (bV au) g8)) (fun _ _ _ _ _=>(aC (i:=0) (show List.Nodup (["part","deep"]:List Str) by ext) rfl (.inl rfl) (.inr rfl))) (fun _ _ _ _ _=>cI) (fun _ _ _ _ _=>jh GC' hr rfl DC.mg DC.F.kp DC.b .nil jE (aa (pv 0) (aa (aX fU (pv 1) au) aj))))
    (aq (aD (fJ (aG jm au (pv 2) rfl) au (aX c7 au (aP (oY rfl) (by rfl) hsum zL (aa (pv 2) aj)))))))))),?_⟩
   refine ⟨_,rfl,rfl,_,rfl,?_⟩
   by_cases h0:m=0
   ·subst h0
    exact cL (by simp) (cL rfl (k _ (az.refl _)))
   refine cg (by simp [h0]) ?_
   obtain ⟨n,rfl⟩:∃ n,m=n+1:=⟨m-1,by omega⟩
   cases td with
   |str a l=>cases rd;exact ⟨_,rfl,_,_,_,_,rfl,.str _,rfl,_,rfl,cL rfl (cL rfl (k _ (az.refl _)))⟩
   |int a b=>cases rd;exact ⟨_,rfl,_,_,_,_,rfl,.int _,rfl,_,rfl,cL rfl (cL rfl (k _ (az.refl _)))⟩
   | nil=>
     cases rd with
     |@tup a xs _ sq rs=>
     cases rs
     exact ⟨_,rfl,_,_,_,_,rfl,.tup sq .nil,rfl,_,rfl,cg rfl ⟨_,rfl,a,_,rfl,.inr sq,rfl,_,rfl,cL (by simp) (k _ (az.refl _))⟩⟩
   |@node f r af lf nr tr=>
   have rd0:=rd
   cases rd with
   |@tup a xs _ sq rs=>
   obtain ⟨x0,ys,rfl⟩:∃ x0 ys,xs=x0::ys:=by cases rs;exact ⟨_,_,rfl⟩
   obtain ⟨r0,rt⟩:Rep K H x0 (.str f)/\bF K H ys r:=by cases rs with|cons a b=>exact ⟨a,b⟩
   cases r0
   have hl:=rt.length
   refine ⟨_,rfl,_,_,_,_,rfl,rd0,rfl,_,rfl,cg rfl ⟨_,rfl,a,_,rfl,.inr sq,rfl,_,rfl,cg (by simp;omega) ?_⟩⟩
   refine ⟨_,rfl,a,f,r,rfl,rd0,.node af lf nr tr,_,rfl,?_⟩
   have e1:cnt (n+1) (.tuple (.str f::r))=if fQ f r=true then 1 else if arity f=some r.length then (if 0∈r.map (cnt n) then 0 else 1+(r.map (cnt n)).sum) else 0:=rfl
   rw [e1] at k
   by_cases hlf:fQ f r=true
   ·rw [if_pos hlf] at k
    rw [hlf]
    exact cL rfl (k _ (az.refl _))
   rw [if_neg hlf] at k
   rw [Bool.eq_false_iff.mpr hlf]
   refine cg rfl ?_
   refine ⟨aW,dW,rfl,TB.kw,_,rfl,a,_,_,_,rfl,rfl,sq,aL (j:=0) rfl,f,rfl,_,rfl,a,_,rfl,.inr sq,_,_,rfl,rfl,?_⟩
   rw [oO]
   by_cases ha:arity f=some r.length
   ·rw [if_pos ha] at k
    rw [ha]
    refine ⟨rfl,_,rfl,cg (by simp;omega) ?_⟩
    refine ⟨_,rfl,1,rfl,a,_,rfl,sq,(fun e=>?_),fun p hp=>?_⟩
    ·rw [m5] at e
     have:=congrArg List.length e
     simp at this
    ·rw [m5]
     have sp:bI K (upd H p (.tup ys)) p ys:=bI.of ao
     have s1:az H (upd H p (.tup ys)):=az.new hp
     generalize upd H p (.tup ys)=H1 at sp s1 ⊢
     refine ⟨p,rfl,⟨_,sp⟩,?_⟩
     refine i_ (K:=K) (a:=p) (xs:=ys) (fun i zs σ' H'=>(∃ v,σ'=[v,some (.int (n+1:Nat))])/\az H1 H'/\zs=((r.take i).map fun d=>V.int (cnt n d:Nat))) (Nat.le_trans (show ys.length≤20 by omega) (by decide)) ⟨⟨none,rfl⟩,az.refl _,rfl⟩ (fun i zs σ' H' _ ⟨_,s2,_⟩=>s2.tup sp) ?_ ?_
     ·rintro i y zs σ' H2 hy hzs ⟨⟨v,rfl⟩,s2,rfl⟩ N hN
      obtain ⟨d,hd,ry⟩:=rt.get' hy
      refine ⟨_,rfl,_,rfl,_,_,rfl,rfl,n,rfl,y,d,?_,ry.same (s1.trans s2),tr d (List.mem_of_getElem? hd),fun H3 s3=>?_⟩
      ·show [y,V.int ((n+1:Nat)-1)]=[y,V.int (n:Nat)]
       rw [show (((n+1:Nat):Int)-1)=(n:Nat) by omega]
      ·exact hN _ _ _ (by rw [List.length_append,hzs];rfl) ⟨⟨_,rfl⟩,s2.trans s3,by rw [List.take_add_one,hd];simp⟩
     ·rintro zs σ' H2 hzs ⟨⟨v,rfl⟩,s2,rfl⟩
      rw [List.take_of_length_le (by omega)]
      have lr:(r.map fun d=>V.int (cnt n d:Nat)).length≤20:=by rw [List.length_map];omega
      refine ⟨Nat.le_trans lr (by decide),fun q hq=>?_⟩
      have s3:az H (upd H2 q (.lst (r.map fun d=>V.int (cnt n d:Nat)))):=(s1.trans s2).trans (az.new hq)
      have sq2:bD K (upd H2 q (.lst (r.map fun d=>V.int (cnt n d:Nat)))) q (r.map fun d=>V.int (cnt n d:Nat)):=bD.of ao
      generalize upd H2 q (.lst (r.map fun d=>V.int (cnt n d:Nat)))=H3 at s3 sq2 ⊢
      refine ⟨_,rfl,q,_,rfl,.inl sq2,rfl,by simp [jL],_,rfl,?_⟩
      have ein:(if false=true then !inV (.int 0) (r.map fun d=>V.int (cnt n d:Nat)) else inV (.int 0) (r.map fun d=>V.int (cnt n d:Nat)))=decide (0∈r.map (cnt n)):=by
       show inV (.int 0) (r.map fun d=>V.int (cnt n d:Nat))=_
       rw [Bool.eq_iff_iff,decide_eq_true_eq]
       unfold inV
       simp only [List.any_eq_true,List.mem_map]
       constructor
       ·rintro ⟨_,⟨d,hd,rfl⟩,he⟩
        exact ⟨d,hd,by simpa [vg] using he⟩
       ·rintro ⟨d,hd,he⟩
        exact ⟨_,⟨d,hd,rfl⟩,by simp [he,vg]⟩
      rw [ein]
      by_cases hz:0∈r.map (cnt n)
      ·rw [if_pos hz] at k
       rw [decide_eq_true hz]
       exact cL rfl (k _ s3)
      ·rw [if_neg hz] at k
       rw [decide_eq_false hz]
       refine cg rfl ?_
       refine ⟨_,rfl,q,r.map fun d=>((cnt n d:Nat):Int),rfl,by rw [List.map_map];exact sq2,by rw [List.length_map];omega,fun x hx=>?_,_,_,rfl,rfl,?_⟩
       ·obtain ⟨d,_,rfl⟩:=List.mem_map.mp hx
        have:=uI n d
        have p20:2 ^ n≤2 ^ 20:=Nat.pow_le_pow_right (by decide) (by omega)
        have:(2:Nat) ^ 20=1048576:=by decide
        omega
       ·have es:=qP (cnt n) r
        rw [es]
        have:=k _ s3
        rw [show ((1+(r.map (cnt n)).sum:Nat):Int)=1+(((r.map (cnt n)).sum:Nat):Int) by omega] at this
        exact this
   ·rw [if_neg ha] at k
    cases hb:arity f with
    |none=>exact ⟨rfl,_,rfl,cL rfl (k _ (az.refl _))⟩
    | some j=>
      refine ⟨rfl,_,rfl,cL ?_ (k _ (az.refl _))⟩
      have:¬ j=r.length:=fun e=>ha (by rw [hb,e])
      simp
      omega
 induction n with
 |zero=>exact main 0 0 (by omega) (fun n e=>by omega)
 |succ n ih=>exact main (n+1) 0 hn5 (fun n' e=>by cases e;exact ih (by omega))
theorem mC:∀ {r:List PyData} {d:PyData},shapes r=true->d∈r->bA d=true
 | e::r,d,h,m=>by
   have h:(bA e && shapes r)=true:=h
   rw [Bool.and_eq_true] at h
   rcases List.mem_cons.mp m with rfl|m
   ·exact h.1
   ·exact mC h.2 m
theorem lq:∀ {r:List PyData} {d:PyData},d∈r->aY d≤cB r
 | e::r,d,m=>by
   have h:cB (e::r)=max (aY e) (cB r):=rfl
   rcases List.mem_cons.mp m with rfl|m
   ·omega
   ·have:=lq m
    omega
theorem fj:∀ (a b:List PyData),dZ (a++b)=dZ a++dZ b
 |[],b=>rfl
 | d::a,b=>by
   show gb d++dZ (a++b)=(gb d++dZ a)++dZ b
   rw [fj a b,List.append_assoc]
theorem bR (d:PyData):dZ [d]=gb d:=by
 show gb d++[]=_
 rw [List.append_nil]
structure Node (n:Nat) (f:Str) (r:List PyData):Prop where
 ar:arity f=some r.length
 sh:∀ d∈r,bA d=true
 de:∀ d∈r,aY d≤n
theorem dm (h:bA (.tuple (.str f::r))=true) (hd:aY (.tuple (.str f::r))≤n+1):(arity f=none/\fQ f r=true)∨Node n f r:=by
 rw [eN] at h
 by_cases ha:arity f=none
 ·rw [if_pos ha] at h
  exact .inl ⟨ha,h⟩
 ·rw [if_neg ha,Bool.and_eq_true,decide_eq_true_eq] at h
  have e:aY (.tuple (.str f::r))=if (arity f).isSome=true then 1+cB r else 1:=rfl
  rw [h.1] at e
  have e:aY (.tuple (.str f::r))=1+cB r:=e
  exact .inr ⟨h.1,fun d m=>mC h.2 m,fun d m=>by have:=lq m;omega⟩
theorem bC (td:TD d) (h:bA d=true):∃ f r,d=.tuple (.str f::r):=by
 cases td with
 |node a b c e=>exact ⟨_,_,rfl⟩
 |_=>exact absurd h (by simp [bA])
theorem iI:∀ {n:Nat} {d:PyData},TD d->bA d=true->aY d≤n->(gb d).length≤2 ^ n
 |0,d,_,_,h=>by have:=bT d;omega
 | n+1,d,td,sh,h=>by
   obtain ⟨f,r,rfl⟩:=bC td sh
   have p:1≤2 ^ n:=Nat.one_le_two_pow
   have e:gb (.tuple (.str f::r))=if (arity f).isSome=true then dZ r else [.tuple (.str f::r)]:=rfl
   rw [e,Nat.pow_succ]
   cases td with
   |node a b c tr=>
   rcases dm sh h with ⟨ha,_⟩|N
   ·rw [ha];simp;omega
   ·rw [N.ar]
    simp only [Option.isSome_some,if_true]
    have a2:=dh N.ar
    match r,a2,N,tr with
    | [x],_,N,tr=>
      have:=iI (tr x (by simp)) (N.sh x (by simp)) (N.de x (by simp))
      rw [bR];omega
    | [x,y],_,N,tr=>
      have h1:=iI (tr x (by simp)) (N.sh x (by simp)) (N.de x (by simp))
      have h2:=iI (tr y (by simp)) (N.sh y (by simp)) (N.de y (by simp))
      have:dZ [x,y]=gb x++gb y:=by rw [show [x,y]=[x]++[y] from rfl,fj,bR,bR]
      rw [this,List.length_append];omega
    |_::_::_::_,a2,_,_=>simp at a2
    |[],a2,_,_=>simp at a2
theorem nH:∀ {n:Nat} {d:PyData},TD d->bA d=true->aY d≤n->∀ e∈gb d,TD e
 |0,d,_,_,h=>by have:=bT d;omega
 | n+1,d,td,sh,h=>by
   obtain ⟨f,r,rfl⟩:=bC td sh
   intro e he
   have td':=td
   have eq:gb (.tuple (.str f::r))=if (arity f).isSome=true then dZ r else [.tuple (.str f::r)]:=rfl
   rw [eq] at he
   cases td with
   |node a b c tr=>
   rcases dm sh h with ⟨ha,_⟩|N
   ·rw [ha] at he
    simp at he
    rw [he];exact td'
   ·rw [N.ar] at he
    simp only [Option.isSome_some,if_true] at he
    have a2:=dh N.ar
    match r,a2,N,tr,he with
    | [x],_,N,tr,he=>
      rw [bR] at he
      exact nH (tr x (by simp)) (N.sh x (by simp)) (N.de x (by simp)) e he
    | [x,y],_,N,tr,he=>
      have:dZ [x,y]=gb x++gb y:=by rw [show [x,y]=[x]++[y] from rfl,fj,bR,bR]
      rw [this,List.mem_append] at he
      rcases he with he|he
      ·exact nH (tr x (by simp)) (N.sh x (by simp)) (N.de x (by simp)) e he
      ·exact nH (tr y (by simp)) (N.sh y (by simp)) (N.de y (by simp)) e he
    |_::_::_::_,a2,_,_,_=>simp at a2
    |[],a2,_,_,_=>simp at a2
theorem m7 (h:bI K H a xs) (hq:H q=some (.lst ys)):bI K (upd H q o) a xs:=by
 rcases h with (h|⟨ob,h⟩)|h
 ·exact .inl (.inl (by rw [aH (fc h hq (by intro z;cases z))];exact h))
 ·exact .inl (.inr ⟨ob,by rw [aH (fc h hq (by intro z;cases z))];exact h⟩)
 ·exact .inr h
theorem vY (hq:H q=some (.lst ys)):∀ {d:PyData} {v:V},TD d->Rep K H v d->Rep K (upd H q o) v d:=by
 intro d v td
 induction td generalizing v with
 |str a l=>intro r;cases r;exact .str _
 |int a b=>intro r;cases r;exact .int _
 |nil=>intro r;cases r with|tup sq rs=>cases rs;exact .tup (m7 sq hq) .nil
 | @node f r a b c tr ih=>
   intro rp
   cases rp with
   |tup sq rs=>
   cases rs with
   |cons r0 rs=>
   cases r0
   refine .tup (m7 sq hq) (.cons (.str _) ?_)
   have:∀ {l:List PyData} {vs:List V},(∀ d∈l,d∈r)->bF K H vs l->bF K (upd H q o) vs l:=by
    intro l
    induction l with
    |nil=>intro vs _ h;cases h;exact .nil
    | cons e l ihl=>
      intro vs hm h
      cases h with
      |cons h1 h2=>exact .cons (ih e (hm e (List.mem_cons_self ..)) h1) (ihl (fun d m=>hm d (List.mem_cons_of_mem _ m)) h2)
   exact this (fun d m=>m) rs
theorem jZ (hq:H q=some (.lst ys)):∀ {l:List PyData} {vs:List V},(∀ d∈l,TD d)->bF K H vs l->bF K (upd H q o) vs l
 |[],_,_,.nil=>.nil
 |e::l,_,ht,.cons a b=>.cons (vY hq (ht e (List.mem_cons_self ..)) a) (jZ hq (fun d m=>ht d (List.mem_cons_of_mem _ m)) b)
theorem gC:∀ {l m:List PyData} {vs us:List V},bF K H vs l->bF K H us m->bF K H (vs++us) (l++m)
 |[],_,_,_,.nil,h=>h
 |_::_,_,_,_,.cons a b,h=>.cons a (gC b h)
section
variable {P:Program} {w:World} {K:PySem.W.Frag} {mg:Str->Option Value} {base:Heap}
structure J5 (mg:Str->Option Value):Prop where
 mp:∃ t,mg "MOST_PARTS" = some (.int 15 t)
 md:∃ t,mg "MOST_DEEP" = some (.int 5 t)
def Gz (K:Frag):Sp:=fun vs H Q _=>∃ (x:V) (d:PyData),vs=[x]/\Rep K H x d/\TD d/\∀ H',az H H'->Q (.bl (cJ d)) H'
theorem Vm:aN ["test"] ["test"] (aA (top 31)):=by ext
theorem Qn (F:fK K "is_test" "is_test" (top 31) f fd) (TT:J5 mg) (DC:cj K mg "count_parts" (top 30) ["thing","deep"] fC fdC) (GC:aJ P w K mg base bB 9 fC fdC ["thing","deep"] (Bk K 5)):aJ P w K mg base bB 10 f fd ["test"] (Gz K):=by
 refine F.ok Vm (by ext) fun cdv A outer s H vs Q E hr h=>?_
 obtain ⟨x,d,rfl,rd,td,k⟩:=h
 obtain ⟨t1,mp⟩:=TT.mp
 obtain ⟨t2,md⟩:=TT.md
 refine ⟨_,(aq (aD (mG gJ gJ au (b_ DC GC hr (aa (pv 0) (aa (bj (v:=.int 5) rfl md ⟨_,rfl⟩) aj))) (bj (v:=.int 15) rfl mp ⟨_,rfl⟩)))),?_⟩
 refine ⟨_,rfl,x,d,rfl,rd,td,fun H' s1=>⟨_,_,rfl,rfl,_,rfl,?_⟩⟩
 have k:=k H' s1
 rw [← Eo] at k
 refine gD (fun h=>?_) (fun h=>?_)
 ·refine ⟨_,_,rfl,rfl,?_⟩
  have e1:1≤cnt 5 d:=by simp at h;omega
  have e2:decide (((cnt 5 d:Nat):Int)≤15)=decide (cnt 5 d≤15):=by rw [Bool.eq_iff_iff];simp;omega
  rw [decide_eq_true e1,Bool.true_and] at k
  show Q (.bl (decide (((cnt 5 d:Nat):Int)≤15))) H'
  rw [e2]
  exact k
 ·have e1:¬ 1≤cnt 5 d:=by simp at h;omega
  rw [decide_eq_false e1,Bool.false_and] at k
  exact k
def z9 (K:Frag) (cT:Addr):Sp:=fun vs H Q E=>∃ (x:V) (d:PyData),vs=[x]/\Rep K H x d/\TD d/\(cJ d=true->∀ H',az H H'->Q .non H')/\(cJ d=false->False)
theorem W9:aN ["test"] ["test"] (aA (top 32)):=by ext
theorem Nx (F:fK K "need_test" "need_test" (top 32) f fd) (DI:cj K mg "is_test" (top 31) ["test"] fI fdI) (GI:aJ P w K mg base bB 10 fI fdI ["test"] (Gz K)):aJ P w K mg base bB 11 f fd ["test"] (z9 K cT):=by
 refine F.ok W9 (by ext) fun cdv A outer s H vs Q E hr h=>?_
 obtain ⟨x,d,rfl,rd,td,k,kx⟩:=h
 have hr3:bH 3 _:=hr.mono (by decide)
 refine ⟨_,(aq (aZ (gA (dO (b_ DI GI hr (aa (pv 0) aj)))) (aq cC) aK)),?_⟩
 refine ⟨_,rfl,x,d,rfl,rd,td,fun H1 s1=>⟨_,rfl,?_⟩⟩
 cases h:cJ d with
 |true=>exact cg rfl (k h H1 s1)
 |false=>exact cL rfl (kx h)
theorem eQ (h:cJ d=true):bA d=true/\aY d≤5/\bG d≤15:=by
 unfold cJ at h
 simpa using h
def Jq (K:Frag) (n:Nat):Sp:=fun vs H Q _=>∃ (x:V) (d:PyData),vs=[x]/\Rep K H x d/\TD d/\bA d=true/\aY d≤n/\n≤10/\∀ l xs H',az H H'->H l=none->H' l=some (.lst xs)->bF K H' xs (gb d)->Q (.ref l) H'
abbrev WW:List Str:=["test","found","part"]
theorem Lp:aN WW ["test"] (aA (top 33)):=by ext
theorem Q0 (DL:cj K mg "leaves_within" (top 33) ["test"] f fd) (TB:nM K mg aW aS) (n:Nat):aJ P w K mg base bB n f fd ["test"] (Jq K n):=by
 refine Nat.rec (motive:=fun n=>aJ P w K mg base bB n f fd ["test"] (Jq K n)) ⟨fun _ _ _ _ h=>?_,fun _ _ _ _ _ _ _ _ _ _ _ _ _ h=>?_⟩ (fun n GL=>?_) n
 ·obtain ⟨x,d,_,_,_,_,hd,_⟩:=h
  have:=bT d
  exact absurd (Nat.le_trans this hd) (by decide)
 ·obtain ⟨x,d,_,_,_,_,hd,_⟩:=h
  have:=bT d
  exact absurd (Nat.le_trans this hd) (by decide)
 refine DL.F.ok Lp (by ext) fun cdv A outer s H vs Q E hr h=>?_
 obtain ⟨x,d,rfl,rd,td,sh,hd,hn,k⟩:=h
 refine ⟨_,(ak (aZ (aG sO (a_ bz (pv 0) au (fun _ _=>rfl)) (bj (v:=.ref aW) rfl TB.mw rfl) rfl) (aq (aD (bL (aa (pv 0) aj)))) aK)
  (ak (aU (i:=1) Lp.nd rfl (.inl rfl) (bL aj))
  (ak (dj PassesOwn.never rfl (iK (cD iD (pv 0) (bV au) g8)) (aC (i:=2) Lp.nd rfl (.inl rfl)) (aq (bU (gB PySem.F.plainAttrs_list PySem.F.slot_list_extend PySem.F.type_list_extend pG (pv 1) (aa (b_ DL GL hr (aa (pv 2) aj)) aj)))))
  (aq (aD (pv 1)))))),?_⟩
 obtain ⟨f,r,rfl⟩:=bC td sh
 have td0:=td
 have rd0:=rd
 cases td with
 |node af lf nr tr=>
 cases rd with
 |@tup a xs _ sq rs=>
 obtain ⟨x0,ys,rfl⟩:∃ x0 ys,xs=x0::ys:=by cases rs;exact ⟨_,_,rfl⟩
 obtain ⟨r0,rt⟩:Rep K H x0 (.str f)/\bF K H ys r:=by cases rs with|cons a b=>exact ⟨a,b⟩
 cases r0
 have hl:=rt.length
 refine ⟨_,rfl,a,_,_,_,rfl,rfl,sq,aL (j:=0) rfl,f,aW,dW,rfl,rfl,TB.kw,_,rfl,?_⟩
 rw [oO]
 have eq:gb (.tuple (.str f::r))=if (arity f).isSome=true then dZ r else [.tuple (.str f::r)]:=rfl
 rcases dm sh hd with ⟨ha,_⟩|N
 ·rw [ha] at eq ⊢
  have eq:gb (.tuple (.str f::r))=[.tuple (.str f::r)]:=eq
  rw [eq] at k
  refine cL rfl ⟨_,rfl,(by ext),fun q hq=>k q _ _ (az.new hq) hq ao (.cons (rd0.same (az.new hq)) .nil)⟩
 ·rw [N.ar] at eq ⊢
  have eq:gb (.tuple (.str f::r))=dZ r:=eq
  rw [eq] at k
  refine cg rfl ⟨(by ext),fun q hq=>?_⟩
  have s1:az H (upd H q (.lst [])):=az.new hq
  have hq1:(upd H q (.lst [])) q=some (.lst []):=ao
  generalize upd H q (.lst [])=H1 at s1 hq1 ⊢
  have a2:=dh N.ar
  refine ⟨_,rfl,1,rfl,a,_,rfl,s1.tup sq,(fun e=>?_),fun p hp=>?_⟩
  ·rw [m5] at e
   have:=congrArg List.length e
   simp at this
  ·rw [m5]
   have sp:bI K (upd H1 p (.tup ys)) p ys:=bI.of ao
   have s2:az H1 (upd H1 p (.tup ys)):=az.new hp
   have hq2:=s2 _ _ hq1
   generalize upd H1 p (.tup ys)=H2 at sp s2 hq2 ⊢
   refine ⟨p,rfl,⟨_,sp⟩,?_⟩
   refine m6 (K:=K) (a:=p) (xs:=ys) (fun i σ' H'=>(∃ v,σ'=[some (.ref a),some (.ref q),v])/\az H H'/\bI K H' p ys/\∃ zs,H' q=some (.lst zs)/\bF K H' zs (dZ (r.take i))) ⟨⟨none,rfl⟩,s1.trans s2,sp,[],hq2,.nil⟩ (fun i σ' H' _ z=>z.2.2.1) ?_ ?_
   ·rintro i y σ' H3 hy ⟨⟨v,rfl⟩,s3,sp3,zs,hz,rz⟩
    obtain ⟨e,he,ry⟩:=rt.get' hy
    have me:=List.mem_of_getElem? he
    refine ⟨_,rfl,.inl ⟨rfl,_,bD.of hz⟩,_,rfl,y,e,rfl,ry.same s3,tr e me,N.sh e me,N.de e me,by omega,fun l us H4 s4 hn4 hl4 ru=>?_⟩
    have hz4:=s4 _ _ hz
    have le1:=rz.length
    have le2:=ru.length
    have lb:(gb e).length≤2 ^ n:=iI (tr e me) (N.sh e me) (N.de e me)
    have p10:2 ^ n≤2 ^ 10:=Nat.pow_le_pow_right (by decide) (by omega)
    have lz:(dZ (r.take i)).length≤2*2 ^ n:=by
     have hi:i<r.length:=(List.getElem?_eq_some_iff.mp he).1
     match r,a2,i,hi,N,tr with
     |[x],_,0,_,_,_=>exact Nat.zero_le _
     |[x,y'],_,0,_,_,_=>exact Nat.zero_le _
     | [x,y'],_,1,_,N,tr=>
       have:=iI (tr x (by simp)) (N.sh x (by simp)) (N.de x (by simp))
       rw [show [x,y'].take 1=[x] from rfl,bR];omega
     |[x],_,i+1,h,_,_=>exact absurd h (by simp)
     |[x,y'],_,i+2,h,_,_=>exact absurd h (by simp)
     |_::_::_::_,a2,_,_,_,_=>simp at a2
     |[],_,_,h,_,_=>simp at h
    have:(2:Nat) ^ 10=1024:=by decide
    refine ⟨q,l,zs,us,rfl,rfl,hz4,hl4,Nat.le_trans (show zs.length+us.length≤4000 by omega) (by decide),?_⟩
    have qn:∀ {b:Addr} {u:HO},H b=some u->b≠q:=fun e=>aB e hq
    have tdl:∀ d∈dZ (r.take i),TD d:=by
     intro d m
     clear lz
     have:∀ (l:List PyData),(∀ e∈l,e∈r)->d∈dZ l->TD d:=by
      intro l
      induction l with
      |nil=>intro _ m;cases m
      | cons e l ih=>
        intro hm m
        have m:d∈gb e++dZ l:=m
        rcases List.mem_append.mp m with m|m
        ·have me:=hm e (List.mem_cons_self ..)
         exact nH (tr e me) (N.sh e me) (N.de e me) d m
        ·exact ih (fun e m=>hm e (List.mem_cons_of_mem _ m)) m
     exact this _ (fun e m=>List.mem_of_mem_take m) m
    refine ⟨⟨_,rfl⟩,fun b u e=>by rw [aH (qn e)];exact s4 _ _ (s3 _ _ e),m7 (s4.tup sp3) hz4,zs++us,ao,?_⟩
    rw [List.take_add_one,he]
    show bF K _ (zs++us) (dZ (r.take i++[e]))
    rw [fj,bR]
    exact gC (jZ hz4 tdl (rz.same s4)) (jZ hz4 (nH (tr e me) (N.sh e me) (N.de e me)) ru)
   ·rintro σ' H3 ⟨⟨v,rfl⟩,s3,sp3,zs,hz,rz⟩
    rw [List.take_of_length_le (by omega)] at rz
    exact ⟨_,rfl,k q zs H3 s3 hq hz rz⟩
end
theorem j9:∀ r:List PyData,jr r=r.map txt
 |[]=>rfl
 | d::r=>by
   show txt d::jr r=_
   rw [j9 r];rfl
theorem pR (h:qi (.int i)=true):(Str.ofString (toString i)).length≤8/\i.natAbs.log2<1920:=by
 have h:(decide (-999999≤i) && decide (i≤999999))=true:=h
 simp at h
 constructor
 ·have:=int_text_length_le10 (a:=i) (k:=6) (by decide) (by omega)
  have e:(Str.ofString (toString i)).length=(toString i).length:=ofString_length _
  omega
 ·by_cases h0:i.natAbs=0
  ·rw [h0];decide
  ·exact Nat.lt_trans ((Nat.log2_lt h0).mpr (show i.natAbs<2 ^ 20 by omega)) (by decide)
inductive jw:Str->List PyData->Prop
 |all:jw "all" []
 |is {x:Str}:nameB x=true->jw "is" [.str x]
 |num {f x:Str} {i:Int}:f = "less"∨f = "same"->nameB x=true->qi (.int i)=true->jw f [.str x,.int i]
theorem iQ (h:fQ f r=true):jw f r:=by
 unfold fQ at h
 by_cases h1:f = "all"
 ·subst h1
  rw [if_pos rfl,List.isEmpty_iff] at h
  subst h
  exact .all
 ·rw [if_neg h1] at h
  by_cases h2:f = "is"
  ·subst h2
   rw [if_pos rfl] at h
   cases r with
   |nil=>cases h
   | cons d r=>
     cases r with
     |cons _ _=>cases h
     | nil=>
       cases d with
       |str x=>exact .is h
       |_=>exact absurd h (by simp [jG])
  ·rw [if_neg h2,Bool.and_eq_true,decide_eq_true_eq] at h
   obtain ⟨h0,h⟩:=h
   cases r with
   |nil=>cases h
   | cons d r=>
     cases r with
     |nil=>cases h
     | cons e r=>
       cases r with
       |cons _ _=>cases h
       | nil=>
         have h:(jG d && qi e)=true:=h
         rw [Bool.and_eq_true] at h
         cases d with
         | str x=>
           cases e with
           |int i=>exact .num h0 h.1 h.2
           |_=>exact absurd h.2 (by simp [qi])
         |_=>exact absurd h.1 (by simp [jG])
theorem jw.ar (h:jw f r):arity f=none:=by
 cases h with
 |all=>decide +kernel
 |is _=>decide +kernel
 |num h _ _=>rcases h with rfl|rfl <;> decide +kernel
theorem sH (h:jw f r):(sI f r).length≤20:=by
 cases h with
 |all=>decide +kernel
 | @is x n=>
   have:=((cG x).mp n).hi
   show (("is:" : Str)++x).length≤20
   rw [Str.length_append,show (("is:" : Str)).length=3 from by ext]
   omega
 | @num f x i h n m=>
   have:=((cG x).mp n).hi
   have:=(pR m).1
   show (x++fu f++(toString i:Str)).length≤20
   have e:(fu f).length=1:=by unfold fu;split <;> decide +kernel
   rw [Str.length_append,Str.length_append,e]
   omega
theorem Bm (h:arity f=some k):f.length≤3:=by
 unfold arity at h
 by_cases h1:f = "not"
 ·subst h1;decide +kernel
 ·by_cases h2:f = "and"
  ·subst h2;decide +kernel
  ·by_cases h3:f = "or"
   ·subst h3;decide +kernel
   ·simp [h1,h2,h3] at h
theorem j5:txt (.tuple (.str f::r))=if (arity f).isSome=true then f++"("++Str.join "," (jr r)++")" else sI f r:=rfl
theorem km:∀ {n:Nat} {d:PyData},TD d->bA d=true->aY d≤n->(txt d).length+10≤30*2 ^ n
 |0,d,_,_,h=>by have:=bT d;omega
 | n+1,d,td,sh,h=>by
   obtain ⟨f,r,rfl⟩:=bC td sh
   have p:1≤2 ^ n:=Nat.one_le_two_pow
   rw [j5,Nat.pow_succ]
   cases td with
   |node a b c tr=>
   rcases dm sh h with ⟨ha,hl⟩|N
   ·rw [ha]
    have:=sH (iQ hl)
    simp;omega
   ·rw [N.ar]
    simp only [Option.isSome_some,if_true]
    have a2:=dh N.ar
    have a3:=Bm N.ar
    have e1:(("(" : Str)).length=1:=by ext
    have e2:((")" : Str)).length=1:=by ext
    have e3:(("," : Str)).length=1:=by ext
    rw [j9]
    match r,a2,N,tr with
    | [x],_,N,tr=>
      have:=km (tr x (by simp)) (N.sh x (by simp)) (N.de x (by simp))
      show (f++"("++txt x++")").length+10≤_
      rw [Str.length_append,Str.length_append,Str.length_append,e1,e2];omega
    | [x,y],_,N,tr=>
      have h1:=km (tr x (by simp)) (N.sh x (by simp)) (N.de x (by simp))
      have h2:=km (tr y (by simp)) (N.sh y (by simp)) (N.de y (by simp))
      show (f++"("++(txt x++","++txt y)++")").length+10≤_
      rw [Str.length_append,Str.length_append,Str.length_append,Str.length_append,Str.length_append,e1,e2,e3];omega
    |_::_::_::_,a2,_,_=>simp at a2
    |[],a2,_,_=>simp at a2
theorem zH {r:List PyData} (hr:r.length≤2) (h:∀ d∈r,(txt d).length+10≤30*2 ^ n):((r.map txt).map (·.length)).sum+(r.map txt).length*("," : Str).length+18≤60*2 ^ n+20/\(Str.join "," (r.map txt)).length+19≤60*2 ^ n+19:=by
 have e3:(("," : Str)).length=1:=by ext
 have p:1≤2 ^ n:=Nat.one_le_two_pow
 rw [e3]
 match r,hr,h with
 |[],_,_=>exact ⟨by simp <;> omega,by show (0:Nat)+19≤_;omega⟩
 | [x],_,h=>
   have:=h x (by simp)
   exact ⟨by simp;omega,by show (txt x).length+19≤_;omega⟩
 | [x,y],_,h=>
   have:=h x (by simp)
   have:=h y (by simp)
   refine ⟨by simp;omega,?_⟩
   show (txt x++","++txt y).length+19≤_
   rw [Str.length_append,Str.length_append,e3];omega
def M4 (K:Frag) (n:Nat):Sp:=fun vs H Q _=>∃ (x:V) (d:PyData),vs=[x]/\Rep K H x d/\TD d/\bA d=true/\aY d≤n/\n≤10/\∀ H',az H H'->Q (.str (txt d)) H'
abbrev Wz:List Str:=["test","form","inner"]
theorem Ko:aN Wz ["test"] (aA (top 35)):=by ext
theorem Oe (DL:cj K mg "text_within" (top 35) ["test"] f fd) (TB:nM K mg aW aS) (n:Nat):aJ P w K mg base bB n f fd ["test"] (M4 K n):=by
 refine Nat.rec (motive:=fun n=>aJ P w K mg base bB n f fd ["test"] (M4 K n)) ⟨fun _ _ _ _ h=>?_,fun _ _ _ _ _ _ _ _ _ _ _ _ _ h=>?_⟩ (fun n GL=>?_) n
 ·obtain ⟨x,d,_,_,_,_,hd,_⟩:=h
  exact absurd (Nat.le_trans (bT d) hd) (by decide)
 ·obtain ⟨x,d,_,_,_,_,hd,_⟩:=h
  exact absurd (Nat.le_trans (bT d) hd) (by decide)
 refine DL.F.ok Ko (by ext) fun cdv A outer s H vs Q E hr h=>?_
 obtain ⟨x,d,rfl,rd,td,sh,hd,hn,k⟩:=h
 refine ⟨_,(ak (aU (i:=1) Ko.nd rfl (.inl rfl) (a_ bz (pv 0) au (fun _ _=>rfl)))
  (ak (aZ (aG ir (pv 1) (bj (v:=.ref aW) rfl TB.mw rfl) rfl) (ak (aU (i:=2) Ko.nd rfl (.inl rfl) (gB PySem.F.plainAttrs_str PySem.F.slot_str_join PySem.F.type_str_join vq aO (aa (fZ (g:=bh 0) (own:=["part"]) (js:=[]) (N':=["part"]) (bw.of (osc:=aA (top 35)) (N:=Wz) rfl rfl (by ext)) rfl (iK (cD iD (pv 0) (bV au) g8)) (fun _ _ _ _ _=>(aC (i:=0) (show List.Nodup (["part"]:List Str) by ext) rfl (.inl rfl) (.inr rfl))) (fun _ _ _ _ _=>cI) (fun _ _ _ _ _=>jh GL hr rfl DL.mg DL.F.kp DL.b .nil jE (aa (pv 0) aj))) aj))) (aq (aD (pN (lu (pv 1) (tV (lu (pv 2) (tV tM)))))))) aK)
  (ak (aZ (aG ir (pv 1) (bj (v:=.ref aS) rfl TB.ms rfl) rfl) (aq (aD (pN (lu (a_ bz (pv 0) au (fun _ _=>rfl)) (lu (a_ uf (bj (v:=.ref aS) rfl TB.ms rfl) (pv 1) (fun _ _=>rfl)) (lu (a_ bz (pv 0) au (fun _ _=>rfl)) tM)))))) aK)
  (aq (aD (fJ (aG bQ (pv 1) aO (aQ _)) (pN (tV (lu (a_ bz (pv 0) au (fun _ _=>rfl)) tM))) aO)))))),?_⟩
 obtain ⟨f,r,rfl⟩:=bC td sh
 cases td with
 |node af lf nr tr=>
 cases rd with
 |@tup a xs _ sq rs=>
 obtain ⟨x0,ys,rfl⟩:∃ x0 ys,xs=x0::ys:=by cases rs;exact ⟨_,_,rfl⟩
 obtain ⟨r0,rt⟩:Rep K H x0 (.str f)/\bF K H ys r:=by cases rs with|cons a b=>exact ⟨a,b⟩
 cases r0
 have hl:=rt.length
 have big:100000≤sizeLine:=by decide
 refine ⟨_,rfl,a,_,_,_,rfl,rfl,sq,aL (j:=0) rfl,_,rfl,f,aW,dW,rfl,rfl,TB.kw,_,rfl,?_⟩
 rw [oO]
 rw [j5] at k
 rcases dm sh hd with ⟨ha,hlf⟩|N
 ·rw [ha] at k ⊢
  have k:∀ H',az H H'->Q (.str (sI f r)) H':=k
  refine cg rfl ⟨_,rfl,f,aS,dS,rfl,rfl,TB.ks,_,rfl,?_⟩
  have lf:=iQ hlf
  have ll:=sH lf
  cases lf with
  | all=>
    refine cg rfl ⟨_,rfl,rfl,_,rfl,cg (by ext) (k _ (az.refl _))⟩
  | @is x n1=>
    cases rt with
    |cons ry rt=>
    cases rt
    cases ry
    refine cg rfl ⟨_,rfl,rfl,_,rfl,cL rfl ?_⟩
    have nl:=((cG x).mp n1).hi
    refine ⟨?_,_,rfl,a,_,_,_,rfl,rfl,sq,aL (j:=1) rfl,_,.inl ⟨rfl,by omega⟩,?_,?_,k _ (az.refl _)⟩
    all_goals (try rw [Str.empty_append])
    ·show 3≤sizeLine;omega
    ·show (("is:" : Str)++x).length≤sizeLine
     rw [Str.length_append,show (("is:" : Str)).length=3 from by ext];omega
    ·show (("is:" : Str)++x).length≤sizeLine
     rw [Str.length_append,show (("is:" : Str)).length=3 from by ext];omega
  | @num f x i h n1 m1=>
    cases rt with
    |cons ry rt=>
    cases rt with
    |cons ry2 rt=>
    cases rt
    cases ry
    cases ry2
    have nl:=((cG x).mp n1).hi
    have il:=pR m1
    have e:iy dS f=some (.str (fu f)):=by
     rw [rH]
     unfold fu
     rcases h with rfl|rfl
     ·rfl
     ·rfl
    have el:(fu f).length=1:=by unfold fu;split <;> decide +kernel
    refine cL (by rw [e];rfl) ⟨_,rfl,a,_,_,_,rfl,rfl,sq,aL (j:=1) rfl,x,.inl ⟨rfl,by omega⟩,?_,_,rfl,aS,f,dS,_,rfl,rfl,TB.ks,e,fu f,.inl ⟨rfl,by omega⟩,?_,_,rfl,a,_,_,_,rfl,rfl,sq,aL (j:=2) rfl,_,.inr ⟨i,rfl,il.2,rfl⟩,?_,?_,(by rw [Str.empty_append];exact k _ (az.refl _))⟩
    all_goals (try rw [Str.empty_append])
    ·omega
    ·rw [Str.length_append];omega
    ·rw [Str.length_append,Str.length_append];omega
    ·rw [Str.length_append,Str.length_append];omega
 ·rw [N.ar] at k ⊢
  have k:∀ H',az H H'->Q (.str (f++"("++Str.join "," (jr r)++")")) H':=k
  rw [j9] at k
  have a2:=dh N.ar
  have a3:=Bm N.ar
  have tl:∀ d∈r,(txt d).length+10≤30*2 ^ n:=fun d m=>km (tr d m) (N.sh d m) (N.de d m)
  have ts:=zH a2.2 tl
  have p10:2 ^ n≤2 ^ 10:=Nat.pow_le_pow_right (by decide) (by omega)
  have p1024:(2:Nat) ^ 10=1024:=by decide
  refine cL rfl ⟨rfl,_,rfl,1,rfl,a,_,rfl,sq,(fun e=>?_),fun p hp=>?_⟩
  ·rw [m5] at e
   have:=congrArg List.length e
   simp at this
  ·rw [m5]
   have sp:bI K (upd H p (.tup ys)) p ys:=bI.of ao
   have s1:az H (upd H p (.tup ys)):=az.new hp
   generalize upd H p (.tup ys)=H1 at sp s1 ⊢
   refine ⟨p,rfl,⟨_,sp⟩,?_⟩
   refine i_ (K:=K) (a:=p) (xs:=ys) (fun i zs σ' H'=>(∃ v,σ'=[v])/\az H1 H'/\zs=((r.take i).map fun d=>V.str (txt d))) (Nat.le_trans (show ys.length≤20 by omega) (by decide)) ⟨⟨none,rfl⟩,az.refl _,rfl⟩ (fun i zs σ' H' _ ⟨_,s2,_⟩=>s2.tup sp) ?_ ?_
   ·rintro i y zs σ' H2 hy hzs ⟨⟨v,rfl⟩,s2,rfl⟩ N' hN
    obtain ⟨d,hd,ry⟩:=rt.get' hy
    have me:=List.mem_of_getElem? hd
    refine ⟨_,rfl,y,d,rfl,ry.same (s1.trans s2),tr d me,N.sh d me,N.de d me,by omega,fun H3 s3=>?_⟩
    exact hN _ _ _ (by rw [List.length_append,hzs];rfl) ⟨⟨_,rfl⟩,s2.trans s3,by rw [List.take_add_one,hd];simp⟩
   ·rintro zs σ' H2 hzs ⟨⟨v,rfl⟩,s2,rfl⟩
    rw [List.take_of_length_le (by omega)]
    have lr:(r.map fun d=>V.str (txt d)).length≤20:=by rw [List.length_map];omega
    refine ⟨Nat.le_trans lr (by decide),fun q hq=>?_⟩
    have s3:az H (upd H2 q (.lst (r.map fun d=>V.str (txt d)))):=(s1.trans s2).trans (az.new hq)
    refine ⟨",",q,r.map txt,rfl,rfl,by rw [List.map_map];exact bD.of ao,by omega,?_⟩
    rw [qL]
    refine ⟨_,rfl,f,.inl ⟨rfl,by omega⟩,?_,?_,_,rfl,_,.inl ⟨rfl,by omega⟩,?_,?_,?_,(by rw [Str.empty_append];exact k _ s3)⟩
    all_goals (try rw [Str.empty_append])
    all_goals first|omega|(simp only [Str.length_append,show (("(" : Str)).length=1 from by ext,show ((")" : Str)).length=1 from by ext];omega)
def Rz (K:Frag) (cT:Addr):Sp:=fun vs H Q E=>∃ (x:V) (d:PyData),vs=[x]/\Rep K H x d/\TD d/\(cJ d=true->∀ H',az H H'->Q (.str (txt d)) H')/\(cJ d=false->False)
theorem W8:aN ["test"] ["test"] (aA (top 34)):=by ext
theorem Ml (F:fK K "test_text" "test_text" (top 34) f fd) (DN:cj K mg "need_test" (top 32) ["test"] fN fdN) (GN:aJ P w K mg base bB 11 fN fdN ["test"] (z9 K cT)) (DW:cj K mg "text_within" (top 35) ["test"] fW fdW) (GW:aJ P w K mg base bB 5 fW fdW ["test"] (M4 K 5)):aJ P w K mg base bB 12 f fd ["test"] (Rz K cT):=by
 refine F.ok W8 (by ext) fun cdv A outer s H vs Q E hr h=>?_
 obtain ⟨x,d,rfl,rd,td,k,kx⟩:=h
 have hr5:bH 5 _:=hr.mono (by decide)
 refine ⟨_,(ak (bU (b_ DN GN hr (aa (pv 0) aj))) (aq (aD (b_ DW GW hr5 (aa (pv 0) aj))))),?_⟩
 refine ⟨_,rfl,x,d,rfl,rd,td,fun h H1 s1=>?_,kx⟩
 obtain ⟨sh,de,_⟩:=eQ h
 exact ⟨_,rfl,x,d,rfl,rd.same s1,td,sh,de,by decide,fun H' s2=>k h H' (s1.trans s2)⟩
theorem tD (h:Nm x):lg x:=by
 unfold lg
 rw [← Array.all_toList,List.all_eq_true]
 intro c hc
 have:=h.lc c hc
 simp;omega
structure Tr (n:Nat) (d:PyData):Prop where
 td:TD d
 sh:bA d=true
 dp:cR d≤n
theorem Gv (h:Nm x):TD (.str x):=.str (tD h) (by have:=h.hi;omega)
theorem jw.tr (h:jw f r):Tr 1 (.tuple (.str f::r)):=by
 have sh:bA (.tuple (.str f::r))=true:=by
  rw [eN,h.ar,if_pos rfl]
  cases h with
  |all=>rfl
  |is n=>exact n
  | num h n m=>
    unfold fQ
    rcases h with rfl|rfl
    ·rw [if_neg (by ext),if_neg (by ext)];simp [jG,n,m]
    ·rw [if_neg (by ext),if_neg (by ext)];simp [jG,n,m]
 cases h with
 |all=>exact ⟨.node (by unfold lg;decide +kernel) (by ext) (by simp) (by simp),sh,by simp [cR,bK]⟩
 | @is x n=>
   refine ⟨.node (by unfold lg;decide +kernel) (by ext) (by simp) (fun d m=>?_),sh,by simp [cR,bK]⟩
   simp at m;subst m
   exact Gv ((cG x).mp n)
 | @num f x i h n m1=>
   refine ⟨.node ?_ ?_ (by simp) (fun d m=>?_),sh,by simp [cR,bK]⟩
   ·rcases h with rfl|rfl <;> (unfold lg;decide +kernel)
   ·rcases h with rfl|rfl <;> decide +kernel
   ·simp at m
    rcases m with rfl|rfl
    ·exact Gv ((cG x).mp n)
    ·have h:(decide (-999999≤i) && decide (i≤999999))=true:=m1
     simp at h
     have:(1000000:Int)≤LK:=by decide
     exact .int (by omega) (by omega)
def Ow:Sp:=fun vs H Q _=>∃ (p dc:Addr),vs=[.ref p]/\Dr H p dc/\∀ (z:Int) (H':Hp),-999999≤z->z≤999999->Dr H' p dc->cZ p H H'->Q (.int z) H'
theorem Su:aN ["_law_d"] ["_law_d"] (aA (top 72)):=by ext
theorem Sd (F:fK K "_law_number" "_law_number" (top 72) f fd) (T:Txt K mg) (DP:cj K mg "_law_pick" (top 67) ["_law_d","_law_many"] fP fdP) (DO:cj K mg "_law_of" (top 68) ["_law_d","_law_things"] fO fdO):aJ P w K mg base bB 3 f fd ["_law_d"] Ow:=by
 have GP:aJ P w K mg base bB 1 fP fdP ["_law_d","_law_many"] iG:=gM DP.F T
 have GO:aJ P w K mg base bB 2 fO fdO ["_law_d","_law_things"] (xW K):=qR DO.F T DP
 refine F.ok Su (by ext) fun cdv A outer s H vs Q E hr h=>?_
 obtain ⟨p,dc,rfl,D,k⟩:=h
 have hr1:bH 1 _:=hr.mono (by decide)
 refine ⟨_,(aq (aD (b_ DO GO hr (aa (pv 0) (aa (bL (aa au (aa au (aa (b_ DP GP hr1 (aa (pv 0) (aa au aj))) (aa (aX fU (b_ DP GP hr1 (aa (pv 0) (aa au aj))) au) (aa au (aa (pF lJ au) (aa (aX fU (b_ DP GP hr1 (aa (pv 0) (aa au aj))) au) aj)))))))) aj))))),?_⟩
 refine ⟨_,rfl,_,rfl,p,dc,_,rfl,D,by decide,by decide,fun r1 H1 r10 r11 D1 b1=>?_⟩
 refine ⟨_,rfl,p,dc,_,rfl,D1,by decide,by decide,fun r2 H2 r20 r21 D2 b2=>⟨_,_,rfl,rfl,_,rfl,?_⟩⟩
 refine ⟨_,rfl,p,dc,_,rfl,D2,by decide,by decide,fun r3 H3 r30 r31 D3 b3=>⟨_,_,rfl,rfl,(by ext),fun q hq=>?_⟩⟩
 refine ⟨p,dc,q,_,rfl,D3.new hq,bD.of ao,by simp,by simp,fun y H4 hy D4 b4=>?_⟩
 obtain ⟨z,rfl,h1,h2⟩:∃ z:Int,y=.int z/\-999999≤z/\z≤999999:=by
  simp only [List.mem_cons,List.not_mem_nil,or_false] at hy
  rcases hy with rfl|rfl|rfl|rfl|rfl|rfl|rfl
  all_goals exact ⟨_,rfl,by omega,by omega⟩
 exact k z H4 h1 h2 D4 (((b1.trans b2).trans b3).trans ((cZ.new hq).trans b4))
def DY (K:Frag):Sp:=fun vs H Q _=>∃ (p dc q q':Addr) (ys ys':List Str),vs=[.ref p,.ref q,.ref q']/\Dr H p dc/\bD K H q (ys.map V.str)/\bD K H q' (ys'.map V.str)/\ys≠[]/\ys'≠[]/\ys.length≤100/\ys'.length≤100/\(∀ y∈ys,Nm y)/\(∀ y∈ys',Nm y)/\
 ∀ (x:V) (f:Str) (r:List PyData) (H':Hp),Rep K H' x (.tuple (.str f::r))->jw f r->Dr H' p dc->cZ p H H'->Q x H'
abbrev Xc:List Str:=["_law_d","_law_names","_law_kinds","_law_way"]
theorem Mt:aN Xc ["_law_d","_law_names","_law_kinds"] (aA (top 73)):=by ext
theorem wz {ys:List Str} (h:v∈ys.map V.str):∃ y∈ys,v=.str y:=by
 obtain ⟨y,m,rfl⟩:=List.mem_map.mp h
 exact ⟨y,m,rfl⟩
theorem F_ (F:fK K "_law_leaf" "_law_leaf" (top 73) f fd) (T:Txt K mg) (DP:cj K mg "_law_pick" (top 67) ["_law_d","_law_many"] fP fdP) (DO:cj K mg "_law_of" (top 68) ["_law_d","_law_things"] fO fdO) (DN:cj K mg "_law_number" (top 72) ["_law_d"] fN fdN):aJ P w K mg base bB 4 f fd ["_law_d","_law_names","_law_kinds"] (DY K):=by
 have GP:aJ P w K mg base bB 1 fP fdP ["_law_d","_law_many"] iG:=gM DP.F T
 have GO:aJ P w K mg base bB 2 fO fdO ["_law_d","_law_things"] (xW K):=qR DO.F T DP
 have GN:aJ P w K mg base bB 3 fN fdN ["_law_d"] Ow:=Sd DN.F T DP DO
 refine F.ok Mt (by ext) fun cdv A outer s H vs Q E hr h=>?_
 obtain ⟨p,dc,q,q',ys,ys',rfl,D,hq,hq',ne,ne',l,l',nm,nm',k⟩:=h
 have hr1:bH 1 _:=hr.mono (by decide)
 have hr2:bH 2 _:=hr.mono (by decide)
 refine ⟨_,(ak (aU (i:=3) Mt.nd rfl (.inl rfl) (b_ DP GP hr1 (aa (pv 0) (aa au aj))))
  (ak (aZ (aG bQ (pv 3) au (aQ _)) (aq (aD (bN (aa aO aj)))) aK)
  (ak (aZ (aG bQ (pv 3) au (aQ _)) (aq (aD (bN (aa aO (aa (b_ DO GO hr2 (aa (pv 0) (aa (pv 2) aj))) aj))))) aK)
  (aq (aD (bN (aa (a_ d7 (bL (aa aO (aa aO aj))) (aX gR (pv 3) au) (fun _ _=>rfl)) (aa (b_ DO GO hr2 (aa (pv 0) (aa (pv 1) aj))) (aa (b_ DN GN hr (aa (pv 0) aj)) aj))))))))),?_⟩
 refine ⟨_,rfl,p,dc,_,rfl,D,by decide,by decide,fun w1 H1 w0 w6 D1 b1=>⟨_,rfl,rfl,_,rfl,?_⟩⟩
 refine gD (fun _=>⟨(by ext),fun t ht=>?_⟩) (fun _=>⟨_,rfl,rfl,_,rfl,?_⟩)
 ·exact k _ "all" [] _ (.tup (bI.of ao) (.cons (.str _) .nil)) .all (D1.new ht) (b1.trans (cZ.new ht))
 refine gD (fun _=>?_) (fun _=>?_)
 ·refine ⟨_,rfl,_,rfl,p,dc,q',_,rfl,D1,D.seq b1 hq',by simpa using ne',by rw [List.length_map];omega,fun y H2 hy D2 b2=>⟨(by ext),fun t ht=>?_⟩⟩
  obtain ⟨y,my,rfl⟩:=wz hy
  exact k _ "is" [.str y] _ (.tup (bI.of ao) (.cons (.str _) (.cons (.str _) .nil))) (.is ((cG y).mpr (nm' y my))) (D2.new ht) ((b1.trans b2).trans (cZ.new ht))
 ·refine ⟨(by ext),fun l0 hl0=>⟨_,rfl,_,_,rfl,rfl,(by show (0:Int)<2;decide),?_⟩⟩
  have b2:cZ p H (upd H1 l0 (.lst [.str "less",.str "same"])):=b1.trans (cZ.new hl0)
  obtain ⟨j,hj,ej⟩:∃ j:Nat,j<2/\w1 % 2=j:=⟨(w1 % 2).toNat,by omega,by omega⟩
  have D2:=D1.new (o:=.lst [.str "less",.str "same"]) hl0
  obtain ⟨f0,hf,ef⟩:∃ f0:Str,(f0 = "less"∨f0 = "same")/\([V.str "less",V.str "same"])[j]?=some (.str f0):=by
   match j,hj with
   |0,_=>exact ⟨"less",.inl rfl,rfl⟩
   |1,_=>exact ⟨"same",.inr rfl,rfl⟩
  refine ⟨l0,_,_,_,rfl,rfl,bD.of ao,(by rw [ej];exact aL ef),_,rfl,_,rfl,p,dc,q,_,rfl,D2,D.seq b2 hq,by simpa using ne,by rw [List.length_map];omega,fun y H3 hy D3 b3=>?_⟩
  obtain ⟨y,my,rfl⟩:=wz hy
  refine ⟨_,rfl,p,dc,rfl,D3,fun z H4 z1 z2 D4 b4=>⟨(by ext),fun t ht=>?_⟩⟩
  exact k _ f0 [.str y,.int z] _ (.tup (bI.of ao) (.cons (.str _) (.cons (.str _) (.cons (.int _) .nil)))) (.num hf ((cG y).mpr (nm y my)) (by simp [qi];omega)) (D4.new ht) (((b2.trans b3).trans b4).trans (cZ.new ht))
theorem Tr.mono (h:Tr n d) (l:n≤m):Tr m d:=⟨h.td,h.sh,Nat.le_trans h.dp l⟩
theorem Tr.one (h:Tr n d):Tr (n+1) (.tuple [.str "not",d]):=by
 refine ⟨.node (by unfold lg;decide +kernel) (by ext) (by simp) (fun e m=>?_),?_,?_⟩
 ·simp at m;subst m;exact h.td
 ·rw [eN,show arity "not" = some 1 from by ext,if_neg (by nofun)]
  simp [shapes,h.sh]
 ·have:=h.dp
  simp [cR,bK];omega
theorem Tr.two {n:Nat} {f:Str} {d e:PyData} (hf:f = "and"∨f = "or") (h:Tr n d) (h':Tr n e):Tr (n+1) (.tuple [.str f,d,e]):=by
 refine ⟨.node ?_ ?_ (by simp) (fun e m=>?_),?_,?_⟩
 ·rcases hf with rfl|rfl <;> (unfold lg;decide +kernel)
 ·rcases hf with rfl|rfl <;> decide +kernel
 ·simp at m
  rcases m with rfl|rfl
  ·exact h.td
  ·exact h'.td
 ·have ha:arity f=some 2:=by rcases hf with rfl|rfl <;> decide +kernel
  rw [eN,ha,if_neg (by nofun)]
  simp [shapes,h.sh,h'.sh]
 ·have:=h.dp
  have:=h'.dp
  simp [cR,bK];omega
def yH (K:Frag) (n:Nat):Sp:=fun vs H Q _=>∃ (p dc q q':Addr) (ys ys':List Str) (m:Int),vs=[.ref p,.int m,.ref q,.ref q']/\m≤n/\Dr H p dc/\bD K H q (ys.map V.str)/\bD K H q' (ys'.map V.str)/\ys≠[]/\ys'≠[]/\ys.length≤100/\ys'.length≤100/\(∀ y∈ys,Nm y)/\(∀ y∈ys',Nm y)/\
 ∀ (x:V) (d:PyData) (H':Hp),Rep K H' x d->Tr n d->Dr H' p dc->cZ p H H'->Q x H'
abbrev Xl:List Str:=["_law_d","_law_deep_here","_law_names","_law_kinds","_law_way","_law_word_here"]
theorem HJ:aN Xl ["_law_d","_law_deep_here","_law_names","_law_kinds"] (aA (top 74)):=by ext
theorem QD {f fP fO fN fL:Addr} {fd fdP fdO fdN fdL:FuncData} (DT:cj K mg "_law_tree" (top 74) ["_law_d","_law_deep_here","_law_names","_law_kinds"] f fd) (T:Txt K mg) (DP:cj K mg "_law_pick" (top 67) ["_law_d","_law_many"] fP fdP) (DO:cj K mg "_law_of" (top 68) ["_law_d","_law_things"] fO fdO) (DN:cj K mg "_law_number" (top 72) ["_law_d"] fN fdN)
 (DL:cj K mg "_law_leaf" (top 73) ["_law_d","_law_names","_law_kinds"] fL fdL) (n:Nat):aJ P w K mg base bB (n+5) f fd ["_law_d","_law_deep_here","_law_names","_law_kinds"] (yH K (n+1)):=by
 have GP:aJ P w K mg base bB 1 fP fdP ["_law_d","_law_many"] iG:=gM DP.F T
 have GL:aJ P w K mg base bB 4 fL fdL ["_law_d","_law_names","_law_kinds"] (DY K):=F_ DL.F T DP DO DN
 have main:∀ m:Nat,(∀ j,j+1=m->aJ P w K mg base bB (j+5) f fd ["_law_d","_law_deep_here","_law_names","_law_kinds"] (yH K (j+1)))->aJ P w K mg base bB (m+5) f fd ["_law_d","_law_deep_here","_law_names","_law_kinds"] (yH K (m+1)):=by
  intro m GC
  have GT:aJ P w K mg base bB (m+4) f fd ["_law_d","_law_deep_here","_law_names","_law_kinds"] (fun vs H Q E=>∃ j,j+1=m/\yH K (j+1) vs H Q E):=by
   match m,GC with
   |0,_=>exact ⟨fun _ _ _ _ ⟨n,e,_⟩=>by omega,fun _ _ _ _ _ _ _ _ _ _ _ _ _ ⟨n,e,_⟩=>by omega⟩
   | m+1,GC=>
     have G:=GC m rfl
     exact ⟨fun vs H Q E ⟨n,e,h⟩=>by cases e;exact G.1 vs H Q E h,fun a1 a2 a3 a4 a5 a6 a7 a8 a9 a10 a11 a12 a13 ⟨n,e,h⟩=>by cases e;exact G.2 a1 a2 a3 a4 a5 a6 a7 a8 a9 a10 a11 a12 a13 h⟩
  refine DT.F.ok HJ (fun vs H Q E h=>?_) (fun cdv A outer s H vs Q E hr h=>?_)
  ·obtain ⟨p,dc,q,q',ys,ys',z,rfl,_⟩:=h
   rfl
  ·obtain ⟨p,dc,q,q',ys,ys',z,rfl,hz,D,hq,hq',ne,ne',l,l',nm,nm',k⟩:=h
   have hr1:bH 1 _:=hr.mono (by omega)
   have hr4:bH 4 _:=hr.mono (by omega)
   refine ⟨_,(ak (aU (i:=4) HJ.nd rfl (.inl rfl) (b_ DP GP hr1 (aa (pv 0) (aa au aj))))
    (ak (aZ (PW.pt (nD (aG jH (pv 1) au (aQ _)) (lK (aG bQ (pv 4) au (aQ _))))) (aq (aD (b_ DL GL hr4 (aa (pv 0) (aa (pv 2) (aa (pv 3) aj)))))) aK)
    (ak (aZ (aG bQ (pv 4) au (aQ _)) (aq (aD (bN (aa aO (aa (b_ DT GT hr (aa (pv 0) (aa (aX fU (pv 1) au) (aa (pv 2) (aa (pv 3) aj))))) aj))))) aK)
    (ak (aU (i:=5) HJ.nd rfl (.inl rfl) (a_ d7 (bL (aa aO (aa aO aj))) (aX gR (pv 4) au) (fun _ _=>rfl)))
    (aq (aD (bN (aa (pv 5) (aa (b_ DT GT hr (aa (pv 0) (aa (aX fU (pv 1) au) (aa (pv 2) (aa (pv 3) aj))))) (aa (b_ DT GT hr (aa (pv 0) (aa (aX fU (pv 1) au) (aa (pv 2) (aa (pv 3) aj))))) aj)))))))))),?_⟩
   refine ⟨_,rfl,p,dc,_,rfl,D,by decide,by decide,fun w1 H1 w0 w5 D1 b1=>?_⟩
   have hq1:=D.seq b1 hq
   have hq1':=D.seq b1 hq'
   have leaf:Af (DY K) [] E0 (v5 (rC 0) (v5 (rC 2) (v5 (rC 3) oE))) [some (.ref p),some (.int z),some (.ref q),some (.ref q'),some (.int w1),none] H1 Q:=
    ⟨_,rfl,_,rfl,_,rfl,p,dc,q,q',ys,ys',rfl,D1,hq1,hq1',ne,ne',l,l',nm,nm',fun x f r H' rp lf D' b'=>k x _ H' rp (lf.tr.mono (by omega)) D' (b1.trans b')⟩
   refine ⟨_,rfl,_,_,rfl,rfl,_,rfl,gD (fun _=>cL rfl leaf) (fun hz2=>⟨_,rfl,rfl,_,rfl,gD (fun _=>leaf) (fun _=>?_)⟩)⟩
   have hz2:¬ z<2:=by simpa using hz2
   obtain ⟨j,rfl⟩:∃ j,m=j+1:=⟨m-1,by omega⟩
   refine ⟨_,rfl,rfl,_,rfl,gD (fun _=>?_) (fun _=>?_)⟩
   ·refine ⟨_,rfl,_,rfl,_,_,rfl,rfl,_,rfl,_,rfl,j,rfl,p,dc,q,q',ys,ys',z-1,rfl,by omega,D1,hq1,hq1',ne,ne',l,l',nm,nm',fun x d H2 rx tx D2 b2=>⟨(by ext),fun t ht=>?_⟩⟩
    exact k _ _ _ (.tup (bI.of ao) (.cons (.str _) (.cons (rx.same (az.new ht)) .nil))) tx.one (D2.new ht) ((b1.trans b2).trans (cZ.new ht))
   ·refine ⟨(by ext),fun l0 hl0=>⟨_,rfl,_,_,rfl,rfl,(by show (0:Int)<2;decide),?_⟩⟩
    have b2:cZ p H (upd H1 l0 (.lst [.str "and",.str "or"])):=b1.trans (cZ.new hl0)
    obtain ⟨i,hj,ej⟩:∃ i:Nat,i<2/\w1 % 2=i:=⟨(w1 % 2).toNat,by omega,by omega⟩
    have D2:=D1.new (o:=.lst [.str "and",.str "or"]) hl0
    obtain ⟨f0,hf,ef⟩:∃ f0:Str,(f0 = "and"∨f0 = "or")/\([V.str "and",V.str "or"])[i]?=some (.str f0):=by
     match i,hj with
     |0,_=>exact ⟨"and",.inl rfl,rfl⟩
     |1,_=>exact ⟨"or",.inr rfl,rfl⟩
    refine ⟨l0,_,_,_,rfl,rfl,bD.of ao,(by rw [ej];exact aL ef),_,rfl,?_⟩
    have hq2:=D.seq b2 hq
    have hq2':=D.seq b2 hq'
    refine ⟨_,rfl,_,rfl,_,_,rfl,rfl,_,rfl,_,rfl,j,rfl,p,dc,q,q',ys,ys',z-1,rfl,by omega,D2,hq2,hq2',ne,ne',l,l',nm,nm',fun x d H3 rx tx D3 b3=>?_⟩
    have b3':=b2.trans b3
    refine ⟨_,rfl,_,rfl,_,_,rfl,rfl,_,rfl,_,rfl,j,rfl,p,dc,q,q',ys,ys',z-1,rfl,by omega,D3,D.seq b3' hq,D.seq b3' hq',ne,ne',l,l',nm,nm',fun x2 d2 H4 rx2 tx2 D4 b4=>⟨(by ext),fun t ht=>?_⟩⟩
    exact k _ _ _ (.tup (bI.of ao) (.cons (.str _) (.cons ((D3.rep b4 rx).same (az.new ht)) (.cons (rx2.same (az.new ht)) .nil)))) (tx.two hf tx2) (D4.new ht) ((b3'.trans b4).trans (cZ.new ht))
 induction n with
 |zero=>exact main 0 (fun n e=>by omega)
 |succ n ih=>exact main (n+1) (fun n' e=>by cases e;exact ih)
theorem RV (f a b c:Str):inV (.str f) [.str a,.str b,.str c]=decide (f=a∨f=b∨f=c):=by
 rw [Bool.eq_iff_iff]
 simp [inV,vg]
 constructor <;> (rintro (h|h|h) <;> simp [h])
theorem yX (f:Str):decide (f = "not"∨f = "and"∨f = "or")=(arity f).isSome:=by
 unfold arity
 by_cases h1:f = "not"
 ·simp [h1]
 ·by_cases h2:f = "and"
  ·subst h2;decide +kernel
  ·by_cases h3:f = "or"
   ·subst h3;decide +kernel
   ·simp [h1,h2,h3]
theorem yF (td:TD d):bA d=true->aY d≤cR d:=by
 induction td with
 |str a b=>intro h;cases h
 |int a b=>intro h;cases h
 |nil=>intro h;cases h
 | @node f r a b c tr ih=>
   intro sh
   have e:aY (.tuple (.str f::r))=if (arity f).isSome=true then 1+cB r else 1:=rfl
   have ep:cR (.tuple (.str f::r))=max 0 (bK r)+1:=rfl
   rcases dm (n:=aY (.tuple (.str f::r))) sh (by omega) with ⟨ha,_⟩|N
   ·rw [e,ha,ep]
    show 1≤_
    omega
   ·have:∀ l:List PyData,(∀ d∈l,d∈r)->cB l≤bK l:=by
     intro l
     induction l with
     |nil=>intro _;exact Nat.zero_le _
     | cons d l ihl=>
       intro hm
       have md:=hm d (List.mem_cons_self ..)
       have h1:=ih d md (N.sh d md)
       have h2:=ihl (fun d m=>hm d (List.mem_cons_of_mem _ m))
       show max (aY d) (cB l)≤max (cR d) (bK l)
       omega
    have:=this r (fun _ m=>m)
    rw [e,N.ar,ep]
    show 1+cB r≤_
    omega
theorem Bb (sh:bA d=true) (h:aY d≤n):bG d+1≤2 ^ n:=by
 have:=uI n d
 rw [uD,if_pos ⟨sh,h⟩] at this
 exact this
theorem xx (h1:1≤r.length/\r.length≤2) (hb:b∈r.map fun d=>((aY d:Nat):Int)) (hm:∀ x∈r.map fun d=>((aY d:Nat):Int),x≤b):b=((cB r:Nat):Int):=by
 match r,h1 with
 | [x],_=>
   have e:cB [x]=max (aY x) 0:=rfl
   simp at hb
   rw [hb,e];omega
 | [x,y],_=>
   have e:cB [x,y]=max (aY x) (max (aY y) 0):=rfl
   have q1:=hm (aY x) (by simp)
   have q2:=hm (aY y) (by simp)
   simp at hb
   rw [e]
   rcases hb with rfl|rfl <;> omega
 |[],h=>exact absurd h.1 (by simp)
 |_::_::_::_,h=>exact absurd h.2 (by simp)
def uN (K:Frag) (g:PyData->Nat) (n:Nat):Sp:=fun vs H Q _=>∃ (x:V) (d:PyData),vs=[x]/\Rep K H x d/\TD d/\bA d=true/\aY d≤n/\n≤10/\∀ H',az H H'->Q (.int (g d:Nat)) H'
theorem V3:aN ["_law_test_here"] ["_law_test_here"] (aA (top 75)):=by ext
theorem W5:aN ["_law_test_here"] ["_law_test_here"] (aA (top 76)):=by ext
theorem Gr (DL:cj K mg "_law_parts" (top 75) ["_law_test_here"] f fd) (hsum:mg "sum" = none) (n:Nat):aJ P w K mg base bB n f fd ["_law_test_here"] (uN K bG n):=by
 refine Nat.rec (motive:=fun n=>aJ P w K mg base bB n f fd ["_law_test_here"] (uN K bG n)) ⟨fun _ _ _ _ h=>?_,fun _ _ _ _ _ _ _ _ _ _ _ _ _ h=>?_⟩ (fun n GL=>?_) n
 ·obtain ⟨x,d,_,_,_,_,hd,_⟩:=h
  exact absurd (Nat.le_trans (bT d) hd) (by decide)
 ·obtain ⟨x,d,_,_,_,_,hd,_⟩:=h
  exact absurd (Nat.le_trans (bT d) hd) (by decide)
 refine DL.F.ok V3 (by ext) fun cdv A outer s H vs Q E hr h=>?_
 obtain ⟨x,d,rfl,rd,td,sh,hd,hn,k⟩:=h
 refine ⟨_,(ak (aZ (aG kh (a_ bz (pv 0) au (fun _ _=>rfl)) (bN (aa aO (aa aO (aa aO aj)))) rfl) (aq (aD au)) aK)
  (aq (aD (aX c7 au (aP (oY rfl) (by rfl) hsum zL (aa (fZ (g:=bh 0) (own:=["_law_part"]) (js:=[]) (N':=["_law_part"]) (bw.of (osc:=aA (top 75)) (N:=["_law_test_here"]) rfl rfl (by ext)) rfl (iK (cD iD (pv 0) (bV au) g8)) (fun _ _ _ _ _=>(aC (i:=0) (show List.Nodup (["_law_part"]:List Str) by ext) rfl (.inl rfl) (.inr rfl))) (fun _ _ _ _ _=>cI) (fun _ _ _ _ _=>jh GL hr rfl DL.mg DL.F.kp DL.b .nil jE (aa (pv 0) aj))) aj)))))),?_⟩
 obtain ⟨f,r,rfl⟩:=bC td sh
 cases td with
 |node af lf nr tr=>
 cases rd with
 |@tup a xs _ sq rs=>
 obtain ⟨x0,ys,rfl⟩:∃ x0 ys,xs=x0::ys:=by cases rs;exact ⟨_,_,rfl⟩
 obtain ⟨r0,rt⟩:Rep K H x0 (.str f)/\bF K H ys r:=by cases rs with|cons a b=>exact ⟨a,b⟩
 cases r0
 have hl:=rt.length
 refine ⟨_,rfl,a,_,_,_,rfl,rfl,sq,aL (j:=0) rfl,(by ext),fun t ht=>?_⟩
 have s0:az H (upd H t (.tup [.str "not",.str "and",.str "or"])):=az.new ht
 refine ⟨t,_,rfl,.inr (bI.of ao),rfl,rfl,_,rfl,?_⟩
 rw [RV,yX]
 have sq0:=s0.tup sq
 have rt0:=rt.same s0
 generalize upd H t (.tup [.str "not",.str "and",.str "or"])=H0 at s0 sq0 rt0 ⊢
 have e:bG (.tuple (.str f::r))=if (arity f).isSome=true then 1+dX r else 1:=rfl
 rw [e] at k
 rcases dm sh hd with ⟨ha,hlf⟩|N
 ·rw [ha] at k ⊢
  exact cL rfl (k _ s0)
 ·rw [N.ar] at k ⊢
  have k:∀ H',az H H'->Q (.int (1+dX r:Nat)) H':=k
  have a2:=dh N.ar
  refine cg rfl ⟨_,rfl,1,rfl,a,_,rfl,sq0,(fun e=>?_),fun p hp=>?_⟩
  ·rw [m5] at e
   have:=congrArg List.length e
   simp at this
  ·rw [m5]
   have sp:bI K (upd H0 p (.tup ys)) p ys:=bI.of ao
   have s1:az H0 (upd H0 p (.tup ys)):=az.new hp
   generalize upd H0 p (.tup ys)=H1 at sp s1 ⊢
   refine ⟨p,rfl,⟨_,sp⟩,?_⟩
   refine i_ (K:=K) (a:=p) (xs:=ys) (fun i zs σ' H'=>(∃ v,σ'=[v])/\az H1 H'/\zs=((r.take i).map fun d=>V.int (bG d:Nat))) (Nat.le_trans (show ys.length≤20 by omega) (by decide)) ⟨⟨none,rfl⟩,az.refl _,rfl⟩ (fun i zs σ' H' _ ⟨_,s2,_⟩=>s2.tup sp) ?_ ?_
   ·rintro i y zs σ' H2 hy hzs ⟨⟨v,rfl⟩,s2,rfl⟩ N' hN
    obtain ⟨d,hd,ry⟩:=rt0.get' hy
    have me:=List.mem_of_getElem? hd
    refine ⟨_,rfl,y,d,rfl,ry.same (s1.trans s2),tr d me,N.sh d me,N.de d me,by omega,fun H3 s3=>?_⟩
    exact hN _ _ _ (by rw [List.length_append,hzs];rfl) ⟨⟨_,rfl⟩,s2.trans s3,by rw [List.take_add_one,hd];simp⟩
   ·rintro zs σ' H2 hzs ⟨⟨v,rfl⟩,s2,rfl⟩
    rw [List.take_of_length_le (by omega)]
    have lr:(r.map fun d=>V.int (bG d:Nat)).length≤20:=by rw [List.length_map];omega
    refine ⟨Nat.le_trans lr (by decide),fun q hq=>?_⟩
    have s3:az H (upd H2 q (.lst (r.map fun d=>V.int (bG d:Nat)))):=((s0.trans s1).trans s2).trans (az.new hq)
    refine ⟨q,r.map fun d=>((bG d:Nat):Int),rfl,by rw [List.map_map];exact bD.of ao,by rw [List.length_map];omega,fun x hx=>?_,_,_,rfl,rfl,?_⟩
    ·obtain ⟨d,md,rfl⟩:=List.mem_map.mp hx
     have:=Bb (N.sh d md) (N.de d md)
     have p20:2 ^ n≤2 ^ 10:=Nat.pow_le_pow_right (by decide) (by omega)
     have:(2:Nat) ^ 10=1024:=by decide
     omega
    ·have es:(r.map bG).sum=dX r:=by
      clear k lr s3 hq
      have:∀ l:List PyData,(l.map bG).sum=dX l:=by
       intro l
       induction l with
       |nil=>rfl
       |cons d l ih=>rw [List.map_cons,List.sum_cons,ih];rfl
      exact this r
     rw [qP,es]
     have:=k _ s3
     rw [show ((1+dX r:Nat):Int)=1+((dX r:Nat):Int) by omega] at this
     exact this
theorem Ov (DL:cj K mg "_law_deep" (top 76) ["_law_test_here"] f fd) (hmax:mg "max" = none) (n:Nat):aJ P w K mg base bB n f fd ["_law_test_here"] (uN K aY n):=by
 refine Nat.rec (motive:=fun n=>aJ P w K mg base bB n f fd ["_law_test_here"] (uN K aY n)) ⟨fun _ _ _ _ h=>?_,fun _ _ _ _ _ _ _ _ _ _ _ _ _ h=>?_⟩ (fun n GL=>?_) n
 ·obtain ⟨x,d,_,_,_,_,hd,_⟩:=h
  exact absurd (Nat.le_trans (bT d) hd) (by decide)
 ·obtain ⟨x,d,_,_,_,_,hd,_⟩:=h
  exact absurd (Nat.le_trans (bT d) hd) (by decide)
 refine DL.F.ok W5 (by ext) fun cdv A outer s H vs Q E hr h=>?_
 obtain ⟨x,d,rfl,rd,td,sh,hd,hn,k⟩:=h
 refine ⟨_,(ak (aZ (aG kh (a_ bz (pv 0) au (fun _ _=>rfl)) (bN (aa aO (aa aO (aa aO aj)))) rfl) (aq (aD au)) aK)
  (aq (aD (aX c7 au (aP (yj rfl) (by rfl) hmax Ha (aa (fZ (g:=bh 0) (own:=["_law_part"]) (js:=[]) (N':=["_law_part"]) (bw.of (osc:=aA (top 76)) (N:=["_law_test_here"]) rfl rfl (by ext)) rfl (iK (cD iD (pv 0) (bV au) g8)) (fun _ _ _ _ _=>(aC (i:=0) (show List.Nodup (["_law_part"]:List Str) by ext) rfl (.inl rfl) (.inr rfl))) (fun _ _ _ _ _=>cI) (fun _ _ _ _ _=>jh GL hr rfl DL.mg DL.F.kp DL.b .nil jE (aa (pv 0) aj))) aj)))))),?_⟩
 obtain ⟨f,r,rfl⟩:=bC td sh
 cases td with
 |node af lf nr tr=>
 cases rd with
 |@tup a xs _ sq rs=>
 obtain ⟨x0,ys,rfl⟩:∃ x0 ys,xs=x0::ys:=by cases rs;exact ⟨_,_,rfl⟩
 obtain ⟨r0,rt⟩:Rep K H x0 (.str f)/\bF K H ys r:=by cases rs with|cons a b=>exact ⟨a,b⟩
 cases r0
 have hl:=rt.length
 refine ⟨_,rfl,a,_,_,_,rfl,rfl,sq,aL (j:=0) rfl,(by ext),fun t ht=>?_⟩
 have s0:az H (upd H t (.tup [.str "not",.str "and",.str "or"])):=az.new ht
 refine ⟨t,_,rfl,.inr (bI.of ao),rfl,rfl,_,rfl,?_⟩
 rw [RV,yX]
 have sq0:=s0.tup sq
 have rt0:=rt.same s0
 generalize upd H t (.tup [.str "not",.str "and",.str "or"])=H0 at s0 sq0 rt0 ⊢
 have e:aY (.tuple (.str f::r))=if (arity f).isSome=true then 1+cB r else 1:=rfl
 rw [e] at k
 rcases dm sh hd with ⟨ha,hlf⟩|N
 ·rw [ha] at k ⊢
  exact cL rfl (k _ s0)
 ·rw [N.ar] at k ⊢
  have k:∀ H',az H H'->Q (.int (1+cB r:Nat)) H':=k
  have a2:=dh N.ar
  refine cg rfl ⟨_,rfl,1,rfl,a,_,rfl,sq0,(fun e=>?_),fun p hp=>?_⟩
  ·rw [m5] at e
   have:=congrArg List.length e
   simp at this
  ·rw [m5]
   have sp:bI K (upd H0 p (.tup ys)) p ys:=bI.of ao
   have s1:az H0 (upd H0 p (.tup ys)):=az.new hp
   generalize upd H0 p (.tup ys)=H1 at sp s1 ⊢
   refine ⟨p,rfl,⟨_,sp⟩,?_⟩
   refine i_ (K:=K) (a:=p) (xs:=ys) (fun i zs σ' H'=>(∃ v,σ'=[v])/\az H1 H'/\zs=((r.take i).map fun d=>V.int (aY d:Nat))) (Nat.le_trans (show ys.length≤20 by omega) (by decide)) ⟨⟨none,rfl⟩,az.refl _,rfl⟩ (fun i zs σ' H' _ ⟨_,s2,_⟩=>s2.tup sp) ?_ ?_
   ·rintro i y zs σ' H2 hy hzs ⟨⟨v,rfl⟩,s2,rfl⟩ N' hN
    obtain ⟨d,hd,ry⟩:=rt0.get' hy
    have me:=List.mem_of_getElem? hd
    refine ⟨_,rfl,y,d,rfl,ry.same (s1.trans s2),tr d me,N.sh d me,N.de d me,by omega,fun H3 s3=>?_⟩
    exact hN _ _ _ (by rw [List.length_append,hzs];rfl) ⟨⟨_,rfl⟩,s2.trans s3,by rw [List.take_add_one,hd];simp⟩
   ·rintro zs σ' H2 hzs ⟨⟨v,rfl⟩,s2,rfl⟩
    rw [List.take_of_length_le (by omega)]
    have lr:(r.map fun d=>V.int (aY d:Nat)).length≤20:=by rw [List.length_map];omega
    refine ⟨Nat.le_trans lr (by decide),fun q hq=>?_⟩
    have s3:az H (upd H2 q (.lst (r.map fun d=>V.int (aY d:Nat)))):=((s0.trans s1).trans s2).trans (az.new hq)
    refine ⟨q,r.map fun d=>((aY d:Nat):Int),rfl,by rw [List.map_map];exact bD.of ao,?_,fun b hb hm=>⟨_,_,rfl,rfl,?_⟩⟩
    ·intro z
     have:=congrArg List.length z
     rw [List.length_map] at this
     simp at this
     rw [this] at a2
     simp at a2
    ·rw [xx a2 hb hm]
     have:=k _ s3
     rw [show ((1+cB r:Nat):Int)=1+((cB r:Nat):Int) by omega] at this
     exact this
theorem Ck (ra:Rep K H (.ref a) (.tuple ds)) (rb:Rep K H (.ref b) (.tuple es)) (l:ds.length+es.length≤1000) (k:∀ v H',az H H'->Rep K H' (.ref v) (.tuple (ds++es))->Q (.ref v) H'):rB K (.ref a) (.ref b) H Q:=by
 cases ra with
 |@tup _ xs _ sq rs=>
 cases rb with
 |@tup _ ys _ sq' rs'=>
 have hl:=rs.length
 have hl':=rs'.length
 have big:1000≤sizeLine:=by decide
 refine ⟨a,b,xs,ys,rfl,rfl,sq,sq',by omega,fun e=>k b H (az.refl _) ?_,fun e=>k a H (az.refl _) ?_,fun p hp=>k p _ (az.new hp) (.tup (bI.of ao) ((gC rs rs').same (az.new hp)))⟩
 ·subst e
  cases rs
  exact .tup sq' rs'
 ·subst e
  cases rs'
  rw [List.append_nil]
  exact .tup sq rs
abbrev l_:Str:="abcdefghijklmnopqrstuvwxyz"
abbrev sS:Str:="0123456789"
theorem Uy:∀ c<128,(!(Builtin.Str.occurrences l_ ⟨#[c]⟩ 0 l_.length 1).isEmpty)=decide (97≤c/\c≤122):=by ext
theorem Vo:∀ c<128,(!(Builtin.Str.occurrences sS ⟨#[c]⟩ 0 sS.length 1).isEmpty)=decide (48≤c/\c≤57):=by ext
structure Sg (sg:Str) (S:Nat->Bool):Prop where
 oc:∀ c<128,(!(Builtin.Str.occurrences sg ⟨#[c]⟩ 0 sg.length 1).isEmpty)=S c
theorem Nv:Sg l_ (fun c=>decide (97≤c/\c≤122)):=⟨Uy⟩
theorem WN:Sg sS (fun c=>decide (48≤c/\c≤57)):=⟨Vo⟩
def iZ (t:Str) (S:Nat->Bool) (a:Nat):Nat:=a+((t.cps.toList.drop a).takeWhile S).length
theorem Ir (h:t.cps.toList[a]?=some c) (hs:S c=true):iZ t S a=iZ t S (a+1):=by
 obtain ⟨hl,e⟩:=List.getElem?_eq_some_iff.mp h
 unfold iZ
 rw [List.drop_eq_getElem_cons hl,e,List.takeWhile_cons,if_pos hs,List.length_cons]
 omega
theorem zN (h:t.cps.toList[a]?=some c) (hs:S c=false):iZ t S a=a:=by
 obtain ⟨hl,e⟩:=List.getElem?_eq_some_iff.mp h
 unfold iZ
 rw [List.drop_eq_getElem_cons hl,e,List.takeWhile_cons,if_neg (by rw [hs];simp)]
 rfl
theorem Fi (h:t.cps.toList.length≤a):iZ t S a=a:=by
 unfold iZ
 rw [List.drop_of_length_le h]
 rfl
def M6:Sp:=fun vs H Q _=>∃ (t sg:Str) (a:Nat) (S:Nat->Bool),vs=[.str t,.int (a:Nat),.str sg]/\Sg sg S/\lg t/\t.length≤100000/\Q (.int (iZ t S a:Nat)) H
theorem Qd:aN ["text","at","signs"] ["text","at","signs"] (aA (top 40)):=by ext
theorem Gj (F:fK K "end_of_run" "end_of_run" (top 40) f fd) (T:Txt K mg):aJ P w K mg base bB 1 f fd ["text","at","signs"] M6:=by
 refine F.ok Qd (by ext) fun cdv A outer s H vs Q E hr h=>?_
 obtain ⟨t,sg,a,S,rfl,sgs,asc,tl,k⟩:=h
 have big:100000≤sizeLine:=by decide
 refine ⟨_,(ak (qW PassesOwn.never (PW.pt (jR (aG jH (pv 1) (aP d_ (by rfl) T.len cM (aa (pv 0) aj)) (aQ _)) (jk (aG yp (a_ mY (pv 0) (pv 1) (fun _ _=>rfl)) (pv 2) rfl)))) (aq (Av (i:=1) Qd.nd rfl (.inl rfl) au v6)))
  (aq (aD (pv 1)))),?_⟩
 refine qQ (fun σ' H'=>∃ b:Nat,σ'=[some (.str t),some (.int (b:Nat)),some (.str sg)]/\H'=H/\iZ t S a=iZ t S b) (fun σ' _=>match σ' with|[_,some (.int b),_]=>t.length-b.toNat|_=>0) ⟨a,rfl,rfl,rfl⟩ ?_ ?_
 ·rintro σ' H' ⟨b,rfl,rfl,e⟩
  have lt:t.cps.toList.length=t.length:=(bZ t).symm
  refine ⟨_,rfl,_,rfl,t,rfl,by omega,_,_,rfl,rfl,_,rfl,gD (fun hb=>?_) (fun hb=>?_)⟩
  ·have hb:b<t.cps.toList.length:=by simp at hb;omega
   have hc:=List.getElem?_eq_getElem hb
   refine ⟨_,rfl,_,rfl,t,_,_,rfl,rfl,by omega,aL hc,_,rfl,_,_,rfl,rfl,_,rfl,?_⟩
   have c128:t.cps.toList[b]<128:=by
    unfold lg at asc
    rw [← Array.all_toList,List.all_eq_true] at asc
    simpa using asc _ (List.getElem_mem hb)
   rw [sgs.oc _ c128]
   cases hs:S t.cps.toList[b] with
   | true=>
     refine cL rfl ⟨_,rfl,_,_,rfl,rfl,⟨b+1,?_,rfl,e.trans (Ir hc hs)⟩,?_⟩
     ·show [some (V.str t),some (V.int ((b:Int)+1)),some (V.str sg)]=_
      rw [show ((b:Int)+1)=((b+1:Nat):Int) by omega]
     ·show t.length-((b:Int)+1).toNat<t.length-((b:Int)).toNat
      omega
   | false=>
     refine cg rfl ⟨_,rfl,?_⟩
     rw [← zN hc hs,← e]
     exact k
  ·have hb:t.cps.toList.length≤b:=by simp at hb;omega
   refine ⟨_,rfl,?_⟩
   rw [← Fi (S:=S) hb,← e]
   exact k
 ·rintro σ' H' Q1 Q2 hQ ⟨v1,e1,v0,e0,x,ex,lx,i,j,ei,ej,kb,ekb,rest⟩
  refine ⟨v1,e1,v0,e0,x,ex,lx,i,j,ei,ej,kb,ekb,?_⟩
  cases kb with
  | false=>
    rw [if_neg (by simp)] at rest ⊢
    exact hQ _ _ rest
  | true=>
    rw [if_pos rfl] at rest ⊢
    obtain ⟨v2,e2,v3,e3,z,i2,c,ez,ei2,lz,ac,v4,e4,i3,j3,ei3,ej3,k2,ek2,r2⟩:=rest
    exact ⟨v2,e2,v3,e3,z,i2,c,ez,ei2,lz,ac,v4,e4,i3,j3,ei3,ej3,k2,ek2,hQ _ _ r2⟩
abbrev fV (i:Int):Str:=Str.ofString (toString i)
theorem ji {a b:Str} (h:a.cps.toList=b.cps.toList):a=b:=by
 obtain ⟨⟨x⟩⟩:=a
 obtain ⟨⟨y⟩⟩:=b
 cases h
 rfl
theorem jT {t:Str} {a:Nat} {xs rest:List Nat} (h:t.cps.toList.drop a=xs++rest):(sub t a (a+xs.length)).cps.toList=xs:=by
 unfold L2.sub
 rw [List.toList_toArray,h,show a+xs.length-a=xs.length by omega,List.take_left']
 rfl
theorem cW {t:Str} {a:Nat} {xs rest:List Nat} (h:t.cps.toList.drop a=xs++rest):t.cps.toList.drop (a+xs.length)=rest:=by
 rw [← List.drop_drop,h,List.drop_left']
 rfl
def Stops (S:Nat->Bool) (rest:List Nat):Prop:=∀ c r,rest=c::r->S c=false
theorem ig {t:Str} {S:Nat->Bool} {a:Nat} {xs rest:List Nat} (h:t.cps.toList.drop a=xs++rest) (hx:∀ c∈xs,S c=true) (hr:Stops S rest):iZ t S a=a+xs.length:=by
 unfold iZ
 rw [h]
 have:(xs++rest).takeWhile S=xs:=by
  clear h
  induction xs with
  | nil=>
    cases rest with
    |nil=>rfl
    |cons c r=>rw [List.nil_append,List.takeWhile_cons,hr c r rfl];rfl
  | cons c xs ih=>
    rw [List.cons_append,List.takeWhile_cons,hx c (List.mem_cons_self ..),if_pos rfl,ih (fun c m=>hx c (List.mem_cons_of_mem _ m))]
 rw [this]
section
variable {P:Program} {w:World} {K:PySem.W.Frag} {mg:Str->Option Value} {base:Heap}
def J6 (cT:Addr):Sp:=fun vs H Q E=>∃ (t sg:Str) (a:Nat),vs=[.str t,.int (a:Nat),.str sg]/\t.length≤100000/\a≤100000/\sg.length≤10/\(sub t a (a+1)=sg->Q (.int ((a+1:Nat):Int)) H)/\(¬ sub t a (a+1)=sg->False)
theorem Ww:aN ["text","at","sign"] ["text","at","sign"] (aA (top 41)):=by ext
theorem Oj (F:fK K "behind" "behind" (top 41) f fd):aJ P w K mg base bB 4 f fd ["text","at","sign"] (J6 cT):=by
 refine F.ok Ww (by ext) fun cdv A outer s H vs Q E hr h=>?_
 obtain ⟨t,sg,a,rfl,tl,al,sl,k,kx⟩:=h
 have big:200000≤sizeLine:=by decide
 refine ⟨_,(ak (aZ (aG j8 (cD iB (pv 0) (bV (pv 1)) (bV (aX c7 (pv 1) au))) (pv 2) (aQ _)) (aq cC) aK)
  (aq (aD (aX c7 (pv 1) au)))),?_⟩
 refine ⟨_,rfl,_,rfl,_,rfl,_,rfl,_,_,rfl,rfl,_,rfl,t,a,a+1,rfl,rfl,rfl,by omega,_,rfl,rfl,_,rfl,?_⟩
 by_cases h:sub t a (a+1)=sg
 ·exact cg (by simp [h]) ⟨_,rfl,_,_,rfl,rfl,k h⟩
 ·exact cL (by simp [h]) (kx h)
structure Ef (mg:Str->Option Value):Prop where
 le:∃ t,mg "LETTERS" = some (.str l_ t)
 fi:∃ t,mg "FIGURES" = some (.str sS t)
abbrev isF:Nat->Bool:=fun c=>decide (48≤c/\c≤57)
abbrev v8:Nat->Bool:=fun c=>decide (97≤c/\c≤122)
def M3:Sp:=fun vs H Q _=>∃ (t:Str) (a:Nat) (i:Int) (rest:List Nat),vs=[.str t,.int (a:Nat)]/\lg t/\t.length≤100000/\a≤t.length/\qi (.int i)=true/\t.cps.toList.drop a=(fV i).cps.toList++rest/\Stops isF rest/\
 ∀ q H',az H H'->H q=none->H' q=some (.tup [.int i,.int ((a+(fV i).length:Nat):Int)])->Q (.ref q) H'
abbrev Xp:List Str:=["text","at","start","end","number"]
theorem Do:aN Xp ["text","at"] (aA (top 39)):=by ext
theorem Oo {f fE cT:Addr} {fd fdE:FuncData} (F:fK K "read_number" "read_number" (top 39) f fd) (T:Txt K mg) (TK:nW mg) (TR:Ef mg) (DE:cj K mg "end_of_run" (top 40) ["text","at","signs"] fE fdE):aJ P w K mg base bB 4 f fd ["text","at"] M3:=by
 have GE:aJ P w K mg base bB 1 fE fdE ["text","at","signs"] M6:=Gj DE.F T
 refine F.ok Do (by ext) fun cdv A outer s H vs Q E hr h=>?_
 obtain ⟨t,a,i,rest,rfl,asc,tl,al,nb,hd,sto,k⟩:=h
 have hr1:bH 1 _:=hr.mono (by decide)
 obtain ⟨tf,mf⟩:=TR.fi
 obtain ⟨tli,ml⟩:=TK.lim
 refine ⟨_,(ak (aU (i:=2) Do.nd rfl (.inl rfl) (fJ (aG bQ (cD iB (pv 0) (bV (pv 1)) (bV (aX c7 (pv 1) au))) aO (aQ _)) (aX c7 (pv 1) au) (pv 1)))
  (ak (aU (i:=3) Do.nd rfl (.inl rfl) (b_ DE GE hr1 (aa (pv 0) (aa (pv 2) (aa (bj (v:=.str sS) rfl mf ⟨_,rfl⟩) aj)))))
  (ak (aZ (gA (n6 gJ gJ au (aX fU (pv 3) (pv 2)) (aP d_ (by rfl) T.len cM (aa (eG kI (by rfl) T.str mJ (aa (bj (v:=.int 999999) rfl ml ⟨_,rfl⟩) aj)) aj)))) (aq cC) aK)
  (ak (aU (i:=4) Do.nd rfl (.inl rfl) (eG xr (by rfl) T.int lC (aa (cD iB (pv 0) (bV (pv 1)) (bV (pv 3))) aj)))
  (ak (aZ (aG j8 (eG kI (by rfl) T.str mJ (aa (pv 4) aj)) (cD iB (pv 0) (bV (pv 1)) (bV (pv 3))) (aQ _)) (aq cC) aK)
  (aq (aD (bN (aa (pv 4) (aa (pv 3) aj)))))))))),?_⟩
 obtain ⟨ds,dg,dne,dsn,hp,hint⟩:=p7 i
 have nb':(decide (-999999≤i) && decide (i≤999999))=true:=nb
 have nb':-999999≤i/\i≤999999:=by simpa using nb'
 have dl:ds.length≤6:=by
  rw [dsn,← bZ]
  exact PyProof.Rows.toString_length_le (by omega) (by decide) (by show ((i.natAbs:Nat):Int)<10 ^ 6;omega)
 have d1:1≤ds.length:=List.length_pos_iff.mpr dne
 have il:=pR nb
 have big:200000≤sizeLine:=by decide
 have dF:∀ c∈ds,isF c=true:=fun c m=>by have:=dg c m;simp;omega
 have ht:(sub t a (a+(fV i).length))=fV i:=ji (by rw [bZ];exact jT hd)
 have six:(fV 999999).length=6:=by ext
 have main:∀ st:Nat,t.cps.toList.drop st=ds++rest->st+ds.length=a+(fV i).length->iZ t isF st=a+(fV i).length:=fun st h1 h2=>by rw [ig h1 dF sto];exact h2
 refine ⟨_,rfl,_,rfl,_,rfl,_,rfl,_,_,rfl,rfl,_,rfl,t,a,a+1,rfl,rfl,rfl,by omega,rfl,_,rfl,?_⟩
 rcases hp with h|h
 ·
  obtain ⟨c,r,rfl⟩:∃ c r,ds=c::r:=by cases ds with|nil=>exact absurd rfl dne|cons c r=>exact ⟨c,r,rfl⟩
  have hc:=dg c (List.mem_cons_self ..)
  have hd0:t.cps.toList.drop a=[c]++(r++rest):=by rw [hd,h];rfl
  have s1:=jT hd0
  have ne:¬ sub t a (a+1) = "-":=fun e=>by
   rw [show a+1=a+[c].length from rfl] at e
   rw [e] at s1
   have:(("-" : Str)).cps.toList=[45]:=by ext
   rw [this] at s1
   injection s1 with q _
   omega
  refine cg (by simp [ne]) ⟨_,rfl,?_⟩
  refine ⟨_,rfl,_,rfl,t,sS,a,isF,rfl,WN,asc,tl,?_⟩
  rw [main a (by rw [hd,h]) (by rw [bZ,h])]
  have eL:(fV i).length=(c::r).length:=by rw [bZ,h]
  refine ⟨_,rfl,_,rfl,_,_,rfl,rfl,_,_,rfl,rfl,_,rfl,?_⟩
  have le:(1:Int)≤((a+(fV i).length:Nat):Int)-((a:Nat):Int):=by omega
  refine cL (decide_eq_true le) ⟨999999,rfl,by decide,_,rfl,by rw [six];omega,_,_,rfl,rfl,_,rfl,cg (by rw [six];simp;omega) ?_⟩
  refine ⟨_,rfl,_,rfl,_,rfl,_,rfl,_,rfl,t,a,a+(fV i).length,rfl,rfl,rfl,by omega,_,i,rfl,by rw [ht];exact hint (by omega),by rw [ht];omega,?_⟩
  refine ⟨_,rfl,i,rfl,il.2,_,rfl,_,rfl,_,rfl,_,rfl,_,rfl,t,a,a+(fV i).length,rfl,rfl,rfl,by omega,rfl,_,rfl,cg (by rw [ht,decide_eq_true rfl];rfl) ?_⟩
  exact ⟨_,rfl,_,rfl,(by ext),fun q hq=>k q _ (az.new hq) hq ao⟩
 ·
  have hd0:t.cps.toList.drop a=[45]++(ds++rest):=by rw [hd,h];rfl
  have s1:=jT hd0
  have ye:sub t a (a+1) = "-":=ji (by rw [show a+1=a+[45].length from rfl,s1];decide +kernel)
  have eL:(fV i).length=ds.length+1:=by rw [bZ,h];rfl
  refine cL (by simp [ye]) ⟨_,rfl,_,_,rfl,rfl,?_⟩
  refine ⟨_,rfl,_,rfl,t,sS,a+1,isF,rfl,WN,asc,tl,?_⟩
  rw [main (a+1) (cW hd0) (by omega)]
  refine ⟨_,rfl,_,rfl,_,_,rfl,rfl,_,_,rfl,rfl,_,rfl,?_⟩
  have le:(1:Int)≤((a+(fV i).length:Nat):Int)-((a+1:Nat):Int):=by omega
  refine cL (decide_eq_true le) ⟨999999,rfl,by decide,_,rfl,by rw [six];omega,_,_,rfl,rfl,_,rfl,cg (by rw [six];simp;omega) ?_⟩
  refine ⟨_,rfl,_,rfl,_,rfl,_,rfl,_,rfl,t,a,a+(fV i).length,rfl,rfl,rfl,by omega,_,i,rfl,by rw [ht];exact hint (by omega),by rw [ht];omega,?_⟩
  refine ⟨_,rfl,i,rfl,il.2,_,rfl,_,rfl,_,rfl,_,rfl,_,rfl,t,a,a+(fV i).length,rfl,rfl,rfl,by omega,rfl,_,rfl,cg (by rw [ht,decide_eq_true rfl];rfl) ?_⟩
  exact ⟨_,rfl,_,rfl,(by ext),fun q hq=>k q _ (az.new hq) hq ao⟩
end
abbrev dF:List (Str×PyData):=[("<",.str "less"),("=",.str "same")]
theorem rW (f:Str):iy dF f=if f = "<" then some (.str "less") else if f = "=" then some (.str "same") else none:=by
 unfold iy
 show ((if _ then _ else if _ then _ else none:Option PyData)).map Ss=_
 by_cases h1:f = "<"
 ·subst h1;rfl
 ·by_cases h2:f = "="
  ·subst h2;rfl
  ·simp [h1,h2]
def Ends (rest:List Nat):Prop:=∀ c r,rest=c::r->c=44∨c=41
theorem Ends.letters {rest:List Nat} (h:Ends rest):Stops v8 rest:=fun c r e=>by
 rcases h c r e with rfl|rfl <;> decide
theorem Ends.figures {rest:List Nat} (h:Ends rest):Stops isF rest:=fun c r e=>by
 rcases h c r e with rfl|rfl <;> decide
abbrev tl (d:PyData):List Nat:=(txt d).cps.toList
theorem m_ (h:Nm x):∀ c∈x.cps.toList,v8 c=true:=fun c m=>by
 have:=h.lc c m
 simp;omega
theorem Am {f x:Str} {i:Int} (h:f = "less"∨f = "same"):tl (.tuple [.str f,.str x,.int i])=x.cps.toList++((fu f).cps.toList++(fV i).cps.toList):=by
 have ha:arity f=none:=by rcases h with rfl|rfl <;> decide +kernel
 show (txt (.tuple [.str f,.str x,.int i])).cps.toList=_
 rw [j5,ha]
 show (x++fu f++(toString i:Str)).cps.toList=_
 rw [Str.cps_append,Str.cps_append,Array.toList_append,Array.toList_append,List.append_assoc]
theorem zT {f:Str} (h:f = "less"∨f = "same"):∃ c,(fu f).cps.toList=[c]/\v8 c=false/\fu f=⟨#[c]⟩/\iy dF (fu f)=some (.str f):=by
 rcases h with rfl|rfl
 ·exact ⟨60,by ext,by decide,by ext,by rw [rW];rfl⟩
 ·exact ⟨61,by ext,by decide,by ext,by rw [rW];rfl⟩
theorem Gd (x:Str):tl (.tuple [.str "is",.str x])=[105,115]++(58::x.cps.toList):=by
 show (("is:" : Str)++x).cps.toList=_
 rw [Str.cps_append,Array.toList_append,show (("is:" : Str)).cps.toList=[105,115,58] from by ext]
 rfl
theorem JM:tl (.tuple [.str "all"])=[97,108,108]:=by ext
theorem vZ (h:arity f=some k):tl (.tuple (.str f::r))=f.cps.toList++(40::((Str.join "," (jr r)).cps.toList++[41])):=by
 show (txt (.tuple (.str f::r))).cps.toList=_
 rw [j5,h]
 show (f++"("++Str.join "," (jr r)++")").cps.toList=_
 simp only [Str.cps_append,Array.toList_append]
 rw [show (("(" : Str)).cps.toList=[40] from by ext,show ((")" : Str)).cps.toList=[41] from by ext]
 simp
theorem uB (h:arity f=some k):∀ c∈f.cps.toList,v8 c=true:=by
 have e:=yX f
 rw [h] at e
 have e:f = "not"∨f = "and"∨f = "or":=by simpa using e
 rcases e with rfl|rfl|rfl <;> decide +kernel
theorem k_ {t:Str} {e c:Nat} {rest:List Nat} (h:t.cps.toList.drop e=c::rest):sub t e (e+1)=⟨#[c]⟩:=ji (jT (xs:=[c]) (rest:=rest) h)
theorem sE {t:Str} {e:Nat} {rest:List Nat} (h:t.cps.toList.drop e=rest) (he:Ends rest) {x:Str} {c:Nat} (hx:x.cps.toList=[c]) (h1:c≠44) (h2:c≠41):¬ sub t e (e+1)=x:=by
 intro q
 have:(sub t e (e+1)).cps.toList=rest.take 1:=by
  unfold L2.sub
  rw [List.toList_toArray,h,show e+1-e=1 by omega]
 rw [q,hx] at this
 cases rest with
 |nil=>cases this
 | cons d r=>
   rw [List.take_succ_cons,List.take_zero] at this
   injection this with z _
   rcases he d r rfl with rfl|rfl
   ·exact h1 z
   ·exact h2 z
theorem qC {t:Str} {a:Nat} {x:Str} {rest:List Nat} (h:t.cps.toList.drop a=x.cps.toList++rest):sub t a (a+x.cps.toList.length)=x:=ji (jT h)
section
variable {P:Program} {w:World} {K:PySem.W.Frag} {mg:Str->Option Value} {base:Heap}
structure At (t:Str) (a:Nat) (xs rest:List Nat):Prop where
 as:lg t
 tl:t.length≤50000
 al:a≤t.length
 dr:t.cps.toList.drop a=xs++rest
 en:Ends rest
def Fo (K:Frag) (cT:Addr) (n:Nat):Sp:=fun vs H Q E=>∃ (t:Str) (a:Nat) (d:PyData) (rest:List Nat),vs=[.str t,.int (a:Nat),.int (n:Nat)]/\TD d/\bA d=true/\At t a (tl d) rest/\
 (aY d≤n->∀ q y H',az H H'->H q=none->H' q=some (.tup [y,.int ((a+(txt d).length:Nat):Int)])->Rep K H' y d->Q (.ref q) H')/\(n<aY d->False)
def Pb (K:Frag) (cT:Addr) (n:Nat):Sp:=fun vs H Q E=>∃ (t:Str) (a:Nat) (f:Str) (r:List PyData) (rest:List Nat),vs=[.str t,.int (a:Nat),.str f,.int (n:Nat)]/\1≤n/\TD (.tuple (.str f::r))/\arity f=some r.length/\(∀ d∈r,bA d=true)/\At t a ((Str.join "," (jr r)).cps.toList++[41]) rest/\
 (cB r+1≤n->∀ q y H',az H H'->H q=none->H' q=some (.tup [y,.int ((a+(Str.join "," (jr r)).length+1:Nat):Int)])->Rep K H' y (.tuple (.str f::r))->Q (.ref q) H')/\(n<cB r+1->False)
abbrev Xu:List Str:=["text","at","deep","end","word","sign","number","after"]
theorem uw:aN Xu ["text","at","deep"] (aA (top 37)):=by ext
theorem Gk {f fE fN fW cT aW aS aF:Addr} {fd fdE fdN fdW:FuncData} {n:Nat} (F:fK K "read_part" "read_part" (top 37) f fd) (T:Txt K mg) (TR:Ef mg) (TB:nM K mg aW aS) (mF:mg "FORM_OF" = some (.ref aF)) (kF:pW K aF dF) (DE:cj K mg "end_of_run" (top 40) ["text","at","signs"] fE fdE)
 (DN:cj K mg "read_number" (top 39) ["text","at"] fN fdN) (GN:aJ P w K mg base bB 4 fN fdN ["text","at"] M3) (DW:cj K mg "read_within" (top 38) ["text","at","form","deep"] fW fdW) (GW:aJ P w K mg base bB (2*n+5) fW fdW ["text","at","form","deep"] (Pb K cT n))
 : aJ P w K mg base bB (2*n+6) f fd ["text","at","deep"] (Fo K cT n):=by
 have GE:aJ P w K mg base bB 1 fE fdE ["text","at","signs"] M6:=Gj DE.F T
 refine F.ok uw (by ext) fun cdv A outer s H vs Q E hr h=>?_
 obtain ⟨t,a,d,rest,rfl,td,sh,AT,k,kx⟩:=h
 have hr1:bH 1 _:=hr.mono (by omega)
 have hr3:bH 3 _:=hr.mono (by omega)
 have hr4:bH 4 _:=hr.mono (by omega)
 obtain ⟨tle,mle⟩:=TR.le
 refine ⟨_,(ak (aZ (aG bQ (pv 2) au (aQ _)) (aq cC) aK)
  (ak (aU (i:=3) uw.nd rfl (.inl rfl) (b_ DE GE hr1 (aa (pv 0) (aa (pv 1) (aa (bj (v:=.str l_) rfl mle ⟨_,rfl⟩) aj)))))
  (ak (aU (i:=4) uw.nd rfl (.inl rfl) (cD iB (pv 0) (bV (pv 1)) (bV (pv 3))))
  (ak (aU (i:=5) uw.nd rfl (.inl rfl) (cD iB (pv 0) (bV (pv 3)) (bV (aX c7 (pv 3) au))))
  (ak (aZ (aG ir (pv 5) (bj (v:=.ref aF) rfl mF rfl) rfl) (ak (gQ (b_ DN GN hr4 (aa (pv 0) (aa (aX c7 (pv 3) au) aj))) (cQ rfl (aM (aC (i:=6) uw.nd rfl (.inl rfl)) (aM (aC (i:=7) uw.nd rfl (.inl rfl)) cA)))) (aq (aD (bN (aa (bN (aa (a_ uf (bj (v:=.ref aF) rfl mF rfl) (pv 5) (fun _ _=>rfl)) (aa (pv 4) (aa (pv 6) aj)))) (aa (pv 7) aj)))))) aK)
  (ak (aZ (PW.pt (jR (aG bQ (pv 4) aO (aQ _)) (jk (aG bQ (pv 5) aO (aQ _))))) (ak (aU (i:=7) uw.nd rfl (.inl rfl) (b_ DE GE hr1 (aa (pv 0) (aa (aX c7 (pv 3) au) (aa (bj (v:=.str l_) rfl mle ⟨_,rfl⟩) aj))))) (aq (aD (bN (aa (bN (aa aO (aa (cD iB (pv 0) (bV (aX c7 (pv 3) au)) (bV (pv 7))) aj))) (aa (pv 7) aj)))))) aK)
  (ak (aZ (PW.pt (jR (aG ir (pv 4) (bj (v:=.ref aW) rfl TB.mw rfl) rfl) (jk (aG bQ (pv 5) aO (aQ _))))) (aq (aD (b_ DW GW hr (aa (pv 0) (aa (aX c7 (pv 3) au) (aa (pv 4) (aa (pv 2) aj))))))) aK)
  (ak (aZ (aG bQ (pv 4) aO (aQ _)) (aq (aD (bN (aa (bN (aa aO aj)) (aa (pv 3) aj))))) aK)
  (aq cC))))))))),?_⟩
 have as:=AT.as
 have tl5:=AT.tl
 have al:=AT.al
 have dr:=AT.dr
 have en:=AT.en
 have big:200000≤sizeLine:=by decide
 refine ⟨_,rfl,rfl,_,rfl,?_⟩
 by_cases h0:n=0
 ·subst h0
  exact cL (by simp) (kx (by have:=bT d;omega))
 refine cg (by simp [h0]) ?_
 obtain ⟨f,r,rfl⟩:=bC td sh
 rcases dm (n:=aY (.tuple (.str f::r))) sh (by omega) with ⟨ha,hlf⟩|N
 ·have lf:=iQ hlf
  have d1:aY (.tuple (.str f::r))=1:=by
   show (if (arity f).isSome=true then 1+cB r else 1)=1
   rw [ha];rfl
  have k:=k (by omega)
  cases lf with
  | all=>
    rw [JM] at dr
    have en0:iZ t v8 a=a+3:=ig dr (by decide) en.letters
    refine ⟨_,rfl,_,rfl,t,l_,a,v8,rfl,Nv,as,by omega,?_⟩
    rw [en0]
    have w0:sub t a (a+3) = "all":=ji (by rw [show a+3=a+[97,108,108].length from rfl,jT dr];decide +kernel)
    refine ⟨_,rfl,_,rfl,_,rfl,_,rfl,_,rfl,t,a,a+3,rfl,rfl,rfl,by omega,?_⟩
    rw [w0]
    refine ⟨_,rfl,_,rfl,_,rfl,_,rfl,_,_,rfl,rfl,_,rfl,t,a+3,a+3+1,rfl,rfl,rfl,by omega,?_⟩
    have dr3:t.cps.toList.drop (a+3)=rest:=cW dr
    have g1:¬ sub t (a+3) (a+3+1) = "<":=sE dr3 en (c:=60) (by ext) (by decide) (by decide)
    have g2:¬ sub t (a+3) (a+3+1) = "=":=sE dr3 en (c:=61) (by ext) (by decide) (by decide)
    generalize sub t (a+3) (a+3+1)=sg at g1 g2 ⊢
    refine ⟨_,rfl,sg,aF,dF,rfl,rfl,kF,_,rfl,cg (by rw [rW,if_neg g1,if_neg g2];rfl) ?_⟩
    refine ⟨_,rfl,rfl,_,rfl,cg (by ext) ?_⟩
    refine ⟨_,rfl,"all",aW,dW,rfl,rfl,TB.kw,_,rfl,cg (by rw [oO];decide +kernel) ?_⟩
    refine ⟨_,rfl,rfl,_,rfl,cL (by simp) ⟨(by ext),fun t1 ht1=>⟨_,rfl,(by ext),fun q hq=>?_⟩⟩⟩
    have s2:=az.new (o:=.tup [.ref t1,.int ((a+3:Nat):Int)]) hq
    exact k q (.ref t1) _ ((az.new ht1).trans s2) (dI (az.new ht1) hq) ao (.tup (bI.of (s2 _ _ ao)) (.cons (.str _) .nil))
  | @is x n1=>
    have nm:=(cG x).mp n1
    rw [Gd] at dr
    have dr2:t.cps.toList.drop a=[105,115]++(58::(x.cps.toList++rest)):=by rw [dr];simp
    have en0:iZ t v8 a=a+2:=ig dr2 (by decide) (fun c r e=>by injection e with e _;subst e;decide)
    refine ⟨_,rfl,_,rfl,t,l_,a,v8,rfl,Nv,as,by omega,?_⟩
    rw [en0]
    have w0:sub t a (a+2) = "is":=ji (by rw [show a+2=a+[105,115].length from rfl,jT dr2];decide +kernel)
    refine ⟨_,rfl,_,rfl,_,rfl,_,rfl,_,rfl,t,a,a+2,rfl,rfl,rfl,by omega,?_⟩
    rw [w0]
    refine ⟨_,rfl,_,rfl,_,rfl,_,rfl,_,_,rfl,rfl,_,rfl,t,a+2,a+2+1,rfl,rfl,rfl,by omega,?_⟩
    have dr3:t.cps.toList.drop (a+2)=58::(x.cps.toList++rest):=cW dr2
    have sg:sub t (a+2) (a+2+1) = ":":=(k_ dr3).trans (by ext)
    rw [sg]
    refine ⟨_,rfl,":",aF,dF,rfl,rfl,kF,_,rfl,cg (by rw [rW];decide +kernel) ?_⟩
    refine ⟨_,rfl,rfl,_,rfl,cL (by simp) ⟨_,rfl,rfl,_,rfl,cL (by simp) ?_⟩⟩
    have dr4:t.cps.toList.drop (a+2+1)=x.cps.toList++rest:=cW (xs:=[58]) dr3
    have en1:iZ t v8 (a+2+1)=a+2+1+x.cps.toList.length:=ig dr4 (m_ nm) en.letters
    refine ⟨_,rfl,_,rfl,_,_,rfl,rfl,t,l_,a+2+1,v8,rfl,Nv,as,by omega,?_⟩
    rw [en1]
    refine ⟨_,rfl,_,rfl,_,_,rfl,rfl,_,rfl,_,rfl,_,rfl,t,a+2+1,a+2+1+x.cps.toList.length,rfl,rfl,rfl,by omega,?_⟩
    rw [qC dr4]
    refine ⟨(by ext),fun t1 ht1=>⟨_,rfl,(by ext),fun q hq=>?_⟩⟩
    have s2:=az.new (o:=.tup [.ref t1,.int ((a+2+1+x.cps.toList.length:Nat):Int)]) hq
    refine k q (.ref t1) _ ((az.new ht1).trans s2) (dI (az.new ht1) hq) ?_ (.tup (bI.of (s2 _ _ ao)) (.cons (.str _) (.cons (.str _) .nil)))
    have el:(txt (.tuple [.str "is",.str x])).length=3+x.cps.toList.length:=by rw [bZ,show (txt (.tuple [.str "is",.str x])).cps.toList=_ from Gd x];simp;omega
    rw [ao,el,show a+2+1+x.cps.toList.length=a+(3+x.cps.toList.length) by omega]
  | @num f x i h n1 m1=>
    have nm:=(cG x).mp n1
    obtain ⟨c,hc1,hc2,hc3,hc4⟩:=zT h
    rw [Am h,hc1] at dr
    have dr2:t.cps.toList.drop a=x.cps.toList++(c::((fV i).cps.toList++rest)):=by rw [dr];simp
    have en0:iZ t v8 a=a+x.cps.toList.length:=ig dr2 (m_ nm) (fun c' r e=>by injection e with e _;subst e;exact hc2)
    refine ⟨_,rfl,_,rfl,t,l_,a,v8,rfl,Nv,as,by omega,?_⟩
    rw [en0]
    refine ⟨_,rfl,_,rfl,_,rfl,_,rfl,_,rfl,t,a,a+x.cps.toList.length,rfl,rfl,rfl,by omega,?_⟩
    rw [qC dr2]
    refine ⟨_,rfl,_,rfl,_,rfl,_,rfl,_,_,rfl,rfl,_,rfl,t,a+x.cps.toList.length,a+x.cps.toList.length+1,rfl,rfl,rfl,by omega,?_⟩
    have dr3:t.cps.toList.drop (a+x.cps.toList.length)=c::((fV i).cps.toList++rest):=cW dr2
    rw [(k_ dr3).trans hc3.symm]
    refine ⟨_,rfl,fu f,aF,dF,rfl,rfl,kF,_,rfl,cL (by rw [hc4];rfl) ?_⟩
    have dr4:t.cps.toList.drop (a+x.cps.toList.length+1)=(fV i).cps.toList++rest:=cW (xs:=[c]) dr3
    have a4:a+x.cps.toList.length+1≤t.length:=by
     have:=congrArg List.length dr3
     rw [List.length_drop,List.length_cons,← bZ] at this
     omega
    refine ⟨_,rfl,_,rfl,_,_,rfl,rfl,t,a+x.cps.toList.length+1,i,rest,rfl,as,by omega,a4,m1,dr4,en.figures,fun q1 H1 s1 hn1 hq1=>?_⟩
    refine ⟨q1,_,rfl,bI.of hq1,rfl,_,_,rfl,_,_,rfl,rfl,?_⟩
    refine ⟨_,rfl,aF,fu f,dF,_,rfl,rfl,kF,hc4,_,rfl,_,rfl,(by ext),fun t1 ht1=>⟨_,rfl,(by ext),fun q hq=>?_⟩⟩
    have s2:=az.new (o:=.tup [.ref t1,.int ((a+x.cps.toList.length+1+(fV i).length:Nat):Int)]) hq
    refine k q (.ref t1) _ (s1.trans ((az.new ht1).trans s2)) (dI (s1.trans (az.new ht1)) hq) ?_ (.tup (bI.of (s2 _ _ ao)) (.cons (.str _) (.cons (.str _) (.cons (.int _) .nil))))
    have el:(txt (.tuple [.str f,.str x,.int i])).length=x.cps.toList.length+1+(fV i).length:=by rw [bZ,show (txt (.tuple [.str f,.str x,.int i])).cps.toList=_ from Am h,hc1,bZ (fV i)];simp;omega
    rw [ao,el,show a+x.cps.toList.length+1+(fV i).length=a+(x.cps.toList.length+1+(fV i).length) by omega]
 ·have dd:aY (.tuple (.str f::r))=1+cB r:=by
   show (if (arity f).isSome=true then 1+cB r else 1)=_
   rw [N.ar];rfl
  rw [vZ N.ar] at dr
  have dr2:t.cps.toList.drop a=f.cps.toList++(40::((Str.join "," (jr r)).cps.toList++[41]++rest)):=by rw [dr];simp
  have en0:iZ t v8 a=a+f.cps.toList.length:=ig dr2 (uB N.ar) (fun c' r e=>by injection e with e _;subst e;decide)
  refine ⟨_,rfl,_,rfl,t,l_,a,v8,rfl,Nv,as,by omega,?_⟩
  rw [en0]
  refine ⟨_,rfl,_,rfl,_,rfl,_,rfl,_,rfl,t,a,a+f.cps.toList.length,rfl,rfl,rfl,by omega,?_⟩
  rw [qC dr2]
  refine ⟨_,rfl,_,rfl,_,rfl,_,rfl,_,_,rfl,rfl,_,rfl,t,a+f.cps.toList.length,a+f.cps.toList.length+1,rfl,rfl,rfl,by omega,?_⟩
  have dr3:t.cps.toList.drop (a+f.cps.toList.length)=40::((Str.join "," (jr r)).cps.toList++[41]++rest):=cW dr2
  have sg:sub t (a+f.cps.toList.length) (a+f.cps.toList.length+1) = "(":=(k_ dr3).trans (by ext)
  rw [sg]
  have a4:a+f.cps.toList.length+1≤t.length:=by
   have:=congrArg List.length dr3
   rw [List.length_drop,List.length_cons,← bZ] at this
   omega
  have f2:¬ f = "is":=by
   intro e
   have:=N.ar
   rw [e,show arity "is" = none from by ext] at this
   cases this
  refine ⟨_,rfl,"(",aF,dF,rfl,rfl,kF,_,rfl,cg (by rw [rW];decide +kernel) ?_⟩
  refine ⟨_,rfl,rfl,_,rfl,cg (by simp [f2]) ?_⟩
  refine ⟨_,rfl,f,aW,dW,rfl,rfl,TB.kw,_,rfl,cL (by rw [oO,N.ar];rfl) ⟨_,rfl,rfl,_,rfl,cL (by simp) ?_⟩⟩
  have el:(txt (.tuple (.str f::r))).length=f.cps.toList.length+1+(Str.join "," (jr r)).length+1:=by rw [bZ,show (txt (.tuple (.str f::r))).cps.toList=_ from vZ N.ar,bZ (Str.join "," (jr r))];simp;omega
  refine ⟨_,rfl,_,rfl,_,_,rfl,rfl,_,rfl,_,rfl,t,a+f.cps.toList.length+1,f,r,rest,rfl,by omega,td,N.ar,N.sh,⟨as,by omega,a4,cW (xs:=[40]) dr3,en⟩,fun h q y H' s1 hn hq ry=>?_,fun h=>kx (by omega)⟩
  refine k (by omega) q y H' s1 hn ?_ ry
  rw [hq,el,show a+f.cps.toList.length+1+(Str.join "," (jr r)).length+1=a+(f.cps.toList.length+1+(Str.join "," (jr r)).length+1) by omega]
end
def lV (a:Nat) (r:List PyData) (i:Nat):Nat:=a+(Str.join "," ((r.take i).map txt)).length
structure Part (t:Str) (a:Nat) (r:List PyData) (rest:List Nat) (i:Nat) (d:PyData):Prop where
 comma:0<i->sub t (lV a r i) (lV a r i+1) = ","
 dr:∃ rest',t.cps.toList.drop (lV a r i+(if i=0 then 0 else 1))=tl d++rest'/\Ends rest'
 nx:lV a r (i+1)=lV a r i+(if i=0 then 0 else 1)+(txt d).length
 al:lV a r i+(if i=0 then 0 else 1)≤t.length
theorem Di {t:Str} {a:Nat} {r:List PyData} {rest:List Nat} (h:t.cps.toList.drop a=(Str.join "," (r.map txt)).cps.toList++[41]++rest) (hl:1≤r.length/\r.length≤2) {i:Nat} {d:PyData} (hd:r[i]?=some d):Part t a r rest i d:=by
 have lenT:∀ x:PyData,(tl x).length=(txt x).length:=fun x=>(bZ _).symm
 have c44:(("," : Str)).cps.toList=[44]:=by ext
 match r,hl,i,hd with
 | [x],_,0,hd=>
   have e:x=d:=by simpa using hd
   subst e
   have h':t.cps.toList.drop a=tl x++(41::rest):=by rw [h];show (txt x).cps.toList++[41]++rest=_;simp
   have ha:a+(txt x).length+1≤t.length:=by
    have:=congrArg List.length h'
    rw [List.length_drop,List.length_append,← bZ,← bZ,List.length_cons] at this
    omega
   exact ⟨fun z=>absurd z (by decide),⟨41::rest,by show t.cps.toList.drop (a+0+0)=_;exact h',fun c r e=>by injection e with e _;exact .inr e.symm⟩,by show a+(txt x).length=a+0+0+(txt x).length;omega,by show a+0+0≤_;omega⟩
 | [x,y],_,0,hd=>
   have e:x=d:=by simpa using hd
   subst e
   have h':t.cps.toList.drop a=tl x++(44::(tl y++(41::rest))):=by
    rw [h]
    show (txt x++","++txt y).cps.toList++[41]++rest=_
    simp only [Str.cps_append,Array.toList_append,c44]
    simp
   have ha:a+(txt x).length+1≤t.length:=by
    have:=congrArg List.length h'
    rw [List.length_drop,List.length_append,← bZ,← bZ,List.length_cons] at this
    omega
   exact ⟨fun z=>absurd z (by decide),⟨_,by show t.cps.toList.drop (a+0+0)=_;exact h',fun c r e=>by injection e with e _;exact .inl e.symm⟩,by show a+(txt x).length=a+0+0+(txt x).length;omega,by show a+0+0≤_;omega⟩
 | [x,y],_,1,hd=>
   have e:y=d:=by simpa using hd
   subst e
   have h':t.cps.toList.drop a=tl x++(44::(tl y++(41::rest))):=by
    rw [h]
    show (txt x++","++txt y).cps.toList++[41]++rest=_
    simp only [Str.cps_append,Array.toList_append,c44]
    simp
   have h2:=cW h'
   rw [lenT] at h2
   have h3:t.cps.toList.drop (a+(txt x).length+1)=tl y++(41::rest):=cW (xs:=[44]) h2
   have ha:a+(txt x).length+1≤t.length:=by
    have:=congrArg List.length h2
    rw [List.length_drop,List.length_cons,← bZ] at this
    omega
   refine ⟨fun _=>(k_ h2).trans (by ext),⟨41::rest,h3,fun c r e=>by injection e with e _;exact .inr e.symm⟩,?_,ha⟩
   show a+(txt x++","++txt y).length=a+(txt x).length+1+(txt y).length
   rw [Str.length_append,Str.length_append,show (("," : Str)).length=1 from by ext]
   omega
 |[x],_,i+1,hd=>simp at hd
 |[x,y],_,i+2,hd=>simp at hd
 |[],hl,_,_=>exact absurd hl.1 (by simp)
 |_::_::_::_,hl,_,_=>exact absurd hl.2 (by simp)
abbrev Xf:List Str:=["text","at","form","deep","parts","number","part"]
theorem yh:aN Xf ["text","at","form","deep"] (aA (top 38)):=by ext
theorem Pj {f fB fR cT aW aS:Addr} {fd fdB fdR:FuncData} {n:Nat} (F:fK K "read_within" "read_within" (top 38) f fd) (T:Txt K mg) (TB:nM K mg aW aS) (DB:cj K mg "behind" (top 41) ["text","at","sign"] fB fdB) (GB:aJ P w K mg base bB 4 fB fdB ["text","at","sign"] (J6 cT))
 (DR:cj K mg "read_part" (top 37) ["text","at","deep"] fR fdR) (GR:aJ P w K mg base bB (2*n+6) fR fdR ["text","at","deep"] (Fo K cT n)):aJ P w K mg base bB (2*n+7) f fd ["text","at","form","deep"] (Pb K cT (n+1)):=by
 refine F.ok yh (by ext) fun cdv A outer s H vs Q E hr h=>?_
 obtain ⟨t,a,ff,r,rest,rfl,_,td,ar,shs,AT,k,kx⟩:=h
 have hr4:bH 4 _:=hr.mono (by omega)
 refine ⟨_,(ak (aU (i:=4) yh.nd rfl (.inl rfl) (bL aj))
  (ak (dj PassesOwn.never rfl (iz rfl T.range (aa (a_ uf (bj (v:=.ref aW) rfl TB.mw rfl) (pv 2) (fun _ _=>rfl)) aj)) (aC (i:=5) yh.nd rfl (.inl rfl)) (ak
   (aZ (aG uX (pv 5) au (aQ _)) (aq (aU (i:=1) yh.nd rfl (.inl rfl) (b_ DB GB hr4 (aa (pv 0) (aa (pv 1) (aa aO aj)))))) aK)
   (ak (gQ (b_ DR GR hr (aa (pv 0) (aa (pv 1) (aa (aX fU (pv 3) au) aj)))) (cQ rfl (aM (aC (i:=6) yh.nd rfl (.inl rfl)) (aM (aC (i:=1) yh.nd rfl (.inl rfl)) cA))))
   (aq (bU (gB PySem.F.plainAttrs_list PySem.F.slot_list_append PySem.F.type_list_append dJ (pv 4) (aa (pv 6) aj)))))))
  (aq (aD (bN (aa (aX pY (bN (aa (pv 2) aj)) (eG gU (by rfl) T.tuple iw (aa (pv 4) aj))) (aa (b_ DB GB hr4 (aa (pv 0) (aa (pv 1) (aa aO aj)))) aj))))))),?_⟩
 have a2:=dh ar
 cases td with
 |node af lf nr tr=>
 have dr:=AT.dr
 rw [j9] at dr k
 have PA:∀ {i:Nat} {d:PyData},r[i]?=some d->Part t a r rest i d:=fun hd=>Di dr a2 hd
 have big:200000≤sizeLine:=by decide
 have tl5:=AT.tl
 have td0:TD (.tuple (.str ff::r)):=.node af lf nr tr
 refine ⟨(by ext),fun q hq=>?_⟩
 have s1:az H (upd H q (.lst [])):=az.new hq
 have hq1:(upd H q (.lst [])) q=some (.lst []):=ao
 generalize upd H q (.lst [])=H1 at s1 hq1 ⊢
 refine ⟨_,rfl,aW,ff,dW,_,rfl,rfl,TB.kw,(by rw [oO,ar];rfl),(r.length:Int),rfl,by omega,by omega,?_⟩
 refine lD (n:=r.length) (fun i σ' H'=>(∃ u5 u6,σ'=[some (.str t),some (.int ((lV a r i:Nat):Int)),some (.str ff),some (.int ((n+1:Nat):Int)),some (.ref q),u5,u6])/\az H H'/\(∃ ys,H' q=some (.lst ys)/\bF K H' ys (r.take i))/\∀ d∈r.take i,aY d≤n) ⟨⟨none,none,rfl⟩,s1,⟨[],hq1,.nil⟩,by simp⟩ ?_ ?_
 ·rintro i σ' H2 hi ⟨⟨u5,u6,rfl⟩,s2,⟨ys,hz,rz⟩,hde⟩
  have hd:r[i]?=some r[i]:=List.getElem?_eq_getElem hi
  have PP:=PA hd
  have md:=List.getElem_mem hi
  generalize r[i]=d at hd PP md
  have pal:=PP.al
  try dsimp only [bh]
  refine j0 (fun σ' H'=>σ'=[some (.str t),some (.int ((lV a r i+(if i=0 then 0 else 1):Nat):Int)),some (.str ff),some (.int ((n+1:Nat):Int)),some (.ref q),some (.int (0+i)),u6]/\H'=H2) ?nx fun N hN=>?st
  case st=>
   refine ⟨_,rfl,_,_,rfl,rfl,_,rfl,gD (fun h=>?_) (fun h=>?_)⟩
   ·have h:0<i:=by simp at h;omega
    rw [if_neg (by omega)] at pal
    refine ⟨_,rfl,_,rfl,t,",",lV a r i,rfl,by omega,by omega,by ext,fun _=>hN _ _ ⟨?_,rfl⟩,fun ne=>absurd (PP.comma h) ne⟩
    rw [if_neg (show ¬ i=0 by omega)]
    rfl
   ·have h:i=0:=by simp at h;omega
    refine hN _ _ ⟨?_,rfl⟩
    rw [if_pos h]
    rfl
  rintro σ' H3 ⟨rfl,rfl⟩
  obtain ⟨rest',dr',en'⟩:=PP.dr
  have nx:=PP.nx
  generalize lV a r i+(if i=0 then 0 else 1)=b at pal dr' nx ⊢
  refine ⟨_,rfl,_,rfl,_,rfl,_,_,rfl,rfl,t,b,d,rest',?_,tr d md,shs d md,⟨AT.as,tl5,pal,dr',en'⟩,fun hdp q2 y H4 s4 hn4 hq2 ry=>?_,fun hgt=>kx (by have:=lq md;omega)⟩
  ·show [V.str t,V.int (b:Nat),V.int (((n+1:Nat):Int)-1)]=_
   rw [show (((n+1:Nat):Int)-1)=((n:Nat):Int) by omega]
  refine ⟨q2,_,rfl,bI.of hq2,rfl,_,_,rfl,_,_,rfl,rfl,?_⟩
  have hz4:=s4 _ _ hz
  have ly:=rz.length
  rw [List.length_take] at ly
  refine ⟨_,rfl,.inl ⟨rfl,_,bD.of hz4⟩,_,rfl,q,ys,y,rfl,rfl,hz4,Nat.lt_of_le_of_lt (show ys.length≤2 by omega) (by decide),?_⟩
  refine ⟨⟨some (.int (0+i)),some y,?_⟩,fun b' u e=>by rw [aH (aB e hq)];exact s4 _ _ (s2 _ _ e),⟨ys++[y],ao,?_⟩,?_⟩
  ·rw [nx];rfl
  ·rw [List.take_add_one,hd]
   exact gC (jZ hz4 (fun e m=>tr e (List.mem_of_mem_take m)) (rz.same s4)) (.cons (vY hz4 (tr d md) ry) .nil)
  ·rw [List.take_add_one,hd]
   intro e m
   rcases List.mem_append.mp m with m|m
   ·exact hde e m
   ·simp at m;subst m;exact hdp
 ·rintro σ' H2 ⟨⟨u5,u6,rfl⟩,s2,⟨ys,hz,rz⟩,hde⟩
  rw [List.take_of_length_le (Nat.le_refl _)] at rz hde
  have dn:cB r≤n:=by
   have:∀ l:List PyData,(∀ d∈l,aY d≤n)->cB l≤n:=by
    intro l
    induction l with
    |nil=>intro _;exact Nat.zero_le _
    | cons d l ih=>
      intro h
      have h1:=h d (List.mem_cons_self ..)
      have h2:=ih fun d m=>h d (List.mem_cons_of_mem _ m)
      show max (aY d) (cB l)≤n
      omega
   exact this r hde
  have ep:lV a r r.length=a+(Str.join "," (r.map txt)).length:=by unfold lV;rw [List.take_of_length_le (Nat.le_refl _)]
  rw [ep]
  have drE:t.cps.toList.drop (a+(Str.join "," (r.map txt)).length)=41::rest:=by
   rw [bZ]
   have:t.cps.toList.drop a=(Str.join "," (r.map txt)).cps.toList++(41::rest):=by rw [dr];simp
   exact cW this
  have aE:a+(Str.join "," (r.map txt)).length+1≤t.length:=by
   have:=congrArg List.length drE
   rw [List.length_drop,List.length_cons,← bZ] at this
   omega
  refine ⟨_,rfl,(by ext),fun t1 ht1=>?_⟩
  have s3:az H2 (upd H2 t1 (.tup [.str ff])):=az.new ht1
  have r3:Rep K (upd H2 t1 (.tup [.str ff])) (.ref t1) (.tuple [.str ff]):=.tup (bI.of ao) (.cons (.str _) .nil)
  refine ⟨_,rfl,q,ys,rfl,.inl ⟨bD.of (s3 _ _ hz),fun t2 ht2=>?_⟩⟩
  have s4:az _ (upd (upd H2 t1 (.tup [.str ff])) t2 (.tup ys)):=az.new ht2
  refine Ck (r3.same s4) (.tup (bI.of ao) ((rz.same s3).same s4)) (by simp;omega) fun v H5 s5 rv=>?_
  refine ⟨_,rfl,_,rfl,t,")",a+(Str.join "," (r.map txt)).length,rfl,by omega,by omega,by ext,fun _=>⟨(by ext),fun q3 hq3=>?_⟩,fun ne=>absurd ((k_ drE).trans (by ext)) ne⟩
  have S5:=s2.trans (s3.trans (az.trans s4 s5))
  have s6:=az.new (o:=.tup [.ref v,.int ((a+(Str.join "," (r.map txt)).length+1:Nat):Int)]) hq3
  exact k (by omega) q3 (.ref v) _ (S5.trans s6) (dI S5 hq3) ao (rv.same s6)
theorem vM:lg x↔∀ c∈x.cps.toList,c<128:=by
 unfold lg
 rw [← Array.all_toList,List.all_eq_true]
 simp
theorem gK (a:lg x) (b:lg y):lg (x++y):=by
 rw [vM] at a b ⊢
 intro c hc
 rw [Str.cps_append,Array.toList_append,List.mem_append] at hc
 exact hc.elim (a c) (b c)
theorem DQ (i:Int):lg (fV i):=by
 obtain ⟨ds,h1,_,_,h2,_⟩:=p7 i
 rw [vM]
 intro c hc
 rcases h2 with h|h
 ·rw [h] at hc
  have:=h1 c hc;omega
 ·rw [h] at hc
  rcases List.mem_cons.mp hc with rfl|hc
  ·omega
  ·have:=h1 c hc;omega
theorem mj:∀ {n:Nat} {d:PyData},TD d->bA d=true->aY d≤n->lg (txt d)
 |0,d,_,_,h=>by have:=bT d;omega
 | n+1,d,td,sh,h=>by
   obtain ⟨f,r,rfl⟩:=bC td sh
   rw [j5]
   cases td with
   |node a b c tr=>
   rcases dm sh h with ⟨ha,hl⟩|N
   ·rw [ha]
    show lg (sI f r)
    cases iQ hl with
    |all=>unfold lg;decide +kernel
    |@is x n1=>exact gK (by unfold lg;decide +kernel) (tD ((cG x).mp n1))
    |@num f x i h n1 m1=>exact gK (gK (tD ((cG x).mp n1)) (by unfold fu;split <;> (unfold lg;decide +kernel))) (DQ i)
   ·rw [N.ar]
    simp only [Option.isSome_some,if_true]
    have a2:=dh N.ar
    rw [j9]
    have ac:lg ("," : Str):=by unfold lg;decide +kernel
    refine gK (gK (gK a (by unfold lg;decide +kernel)) ?_) (by unfold lg;decide +kernel)
    match r,a2,N,tr with
    |[x],_,N,tr=>exact mj (tr x (by simp)) (N.sh x (by simp)) (N.de x (by simp))
    |[x,y],_,N,tr=>exact gK (gK (mj (tr x (by simp)) (N.sh x (by simp)) (N.de x (by simp))) ac) (mj (tr y (by simp)) (N.sh y (by simp)) (N.de y (by simp)))
    |_::_::_::_,a2,_,_=>simp at a2
    |[],a2,_,_=>simp at a2
theorem wY (DR:cj K mg "read_part" (top 37) ["text","at","deep"] f fd) (T:Txt K mg) (TR:Ef mg) (TB:nM K mg aW aS) (mF:mg "FORM_OF" = some (.ref aF)) (kF:pW K aF dF) (DE:cj K mg "end_of_run" (top 40) ["text","at","signs"] fE fdE)
 (DN:cj K mg "read_number" (top 39) ["text","at"] fN fdN) (GN:aJ P w K mg base bB 4 fN fdN ["text","at"] M3) (DW:cj K mg "read_within" (top 38) ["text","at","form","deep"] fW fdW) (DB:cj K mg "behind" (top 41) ["text","at","sign"] fB fdB) (GB:aJ P w K mg base bB 4 fB fdB ["text","at","sign"] (J6 cT))
 (n:Nat):aJ P w K mg base bB (2*n+6) f fd ["text","at","deep"] (Fo K cT n):=by
 induction n with
 | zero=>
   refine Gk DR.F T TR TB mF kF DE DN GN DW ⟨fun _ _ _ _ h=>?_,fun _ _ _ _ _ _ _ _ _ _ _ _ _ h=>?_⟩
   ·obtain ⟨_,_,_,_,_,_,h,_⟩:=h
    exact absurd h (by decide)
   ·obtain ⟨_,_,_,_,_,_,h,_⟩:=h
    exact absurd h (by decide)
 |succ n ih=>exact Gk DR.F T TR TB mF kF DE DN GN DW (Pj DW.F T TB DB GB DR ih)
def Qj (K:Frag) (cT:Addr):Sp:=fun vs H Q E=>∃ (d:PyData),vs=[.str (txt d)]/\TD d/\bA d=true/\aY d≤8/\(cJ d=true->∀ y H',az H H'->Rep K H' y d->Q y H')/\(cJ d=false->False)
theorem Hc:aN ["text","test","end"] ["text"] (aA (top 36)):=by ext
theorem Rt (F:fK K "read_test" "read_test" (top 36) f fd) (T:Txt K mg) (TT:J5 mg) (DR:cj K mg "read_part" (top 37) ["text","at","deep"] fR fdR) (GR:aJ P w K mg base bB 16 fR fdR ["text","at","deep"] (Fo K cT 5))
 (DI:cj K mg "is_test" (top 31) ["test"] fI fdI) (GI:aJ P w K mg base bB 10 fI fdI ["test"] (Gz K)):aJ P w K mg base bB 17 f fd ["text"] (Qj K cT):=by
 refine F.ok Hc (by ext) fun cdv A outer s H vs Q E hr h=>?_
 obtain ⟨d,rfl,td,sh,d8,k,kx⟩:=h
 have hr3:bH 3 _:=hr.mono (by decide)
 have hr10:bH 10 _:=hr.mono (by decide)
 obtain ⟨t2,md⟩:=TT.md
 refine ⟨_,(ak (gQ (b_ DR GR hr (aa (pv 0) (aa au (aa (bj (v:=.int 5) rfl md ⟨_,rfl⟩) aj)))) (cQ rfl (aM (aC (i:=1) Hc.nd rfl (.inl rfl)) (aM (aC (i:=2) Hc.nd rfl (.inl rfl)) cA))))
  (ak (aZ (PW.pt (nD (aG j8 (pv 2) (aP d_ (by rfl) T.len cM (aa (pv 0) aj)) (aQ _)) (lK (gA (dO (b_ DI GI hr10 (aa (pv 1) aj))))))) (aq cC) aK)
  (aq (aD (pv 1))))),?_⟩
 have tl:=km td sh d8
 have p8:(2:Nat) ^ 8=256:=by decide
 have big:100000≤sizeLine:=by decide
 refine ⟨_,rfl,txt d,0,d,[],rfl,td,sh,⟨mj td sh d8,by omega,Nat.zero_le _,by rw [List.drop_zero,List.append_nil],fun c r e=>by cases e⟩,fun h5 q y H1 s1 hn hq ry=>?_,fun h5=>kx ?_⟩
 ·refine ⟨q,_,rfl,bI.of hq,rfl,_,_,rfl,_,_,rfl,rfl,?_⟩
  refine ⟨_,rfl,_,rfl,_,rfl,by omega,rfl,_,rfl,cg (by simp) ?_⟩
  refine ⟨_,rfl,y,d,rfl,ry,td,fun H2 s2=>⟨_,rfl,?_⟩⟩
  cases ht:cJ d with
  |true=>exact cg rfl ⟨_,rfl,k ht y H2 (s1.trans s2) (ry.same s2)⟩
  | false=>
    exact cL rfl (kx ht)
 ·cases ht:cJ d with
  |false=>rfl
  | true=>
    have:=(eQ ht).2.1
    omega
theorem je:∀ {n:Nat} {d:PyData},TD d->bA d=true->aY d≤n->2*(gb d).length≤bG d+1
 |0,d,_,_,h=>by have:=bT d;omega
 | n+1,d,td,sh,h=>by
   obtain ⟨f,r,rfl⟩:=bC td sh
   have e:gb (.tuple (.str f::r))=if (arity f).isSome=true then dZ r else [.tuple (.str f::r)]:=rfl
   have e2:bG (.tuple (.str f::r))=if (arity f).isSome=true then 1+dX r else 1:=rfl
   rw [e,e2]
   cases td with
   |node a b c tr=>
   rcases dm sh h with ⟨ha,_⟩|N
   ·rw [ha];simp
   ·rw [N.ar]
    simp only [Option.isSome_some,if_true]
    have a2:=dh N.ar
    match r,a2,N,tr with
    | [x],_,N,tr=>
      have:=je (tr x (by simp)) (N.sh x (by simp)) (N.de x (by simp))
      rw [bR]
      show _≤1+(bG x+0)+1
      omega
    | [x,y],_,N,tr=>
      have h1:=je (tr x (by simp)) (N.sh x (by simp)) (N.de x (by simp))
      have h2:=je (tr y (by simp)) (N.sh y (by simp)) (N.de y (by simp))
      have:dZ [x,y]=gb x++gb y:=by rw [show [x,y]=[x]++[y] from rfl,fj,bR,bR]
      rw [this,List.length_append]
      show _≤1+(bG x+(bG y+0))+1
      omega
    |_::_::_::_,a2,_,_=>simp at a2
    |[],a2,_,_=>simp at a2
def Ls (K:Frag):Sp:=fun vs H Q _=>∃ (p dc q q':Addr) (ys ys':List Str),vs=[.ref p,.ref q,.ref q']/\Dr H p dc/\bD K H q (ys.map V.str)/\bD K H q' (ys'.map V.str)/\ys≠[]/\ys'≠[]/\ys.length≤100/\ys'.length≤100/\(∀ y∈ys,Nm y)/\(∀ y∈ys',Nm y)/\
 ∀ (x:V) (d:PyData) (H':Hp),Rep K H' x d->Tr 5 d->cJ d=true->Dr H' p dc->cZ p H H'->Q x H'
abbrev X8:List Str:=["_law_d","_law_names","_law_kinds","_law_test_here"]
theorem N7:aN X8 ["_law_d","_law_names","_law_kinds"] (aA (top 77)):=by ext
theorem NQ (F:fK K "_law_test" "_law_test" (top 77) f fd) (T:Txt K mg) (hsum:mg "sum" = none) (DP:cj K mg "_law_pick" (top 67) ["_law_d","_law_many"] fP fdP) (DO:cj K mg "_law_of" (top 68) ["_law_d","_law_things"] fO fdO) (DN:cj K mg "_law_number" (top 72) ["_law_d"] fN fdN)
 (DL:cj K mg "_law_leaf" (top 73) ["_law_d","_law_names","_law_kinds"] fL fdL) (DT:cj K mg "_law_tree" (top 74) ["_law_d","_law_deep_here","_law_names","_law_kinds"] fT fdT) (DA:cj K mg "_law_parts" (top 75) ["_law_test_here"] fA fdA):aJ P w K mg base bB 10 f fd ["_law_d","_law_names","_law_kinds"] (Ls K):=by
 have GP:aJ P w K mg base bB 1 fP fdP ["_law_d","_law_many"] iG:=gM DP.F T
 have GL:aJ P w K mg base bB 4 fL fdL ["_law_d","_law_names","_law_kinds"] (DY K):=F_ DL.F T DP DO DN
 have GT:aJ P w K mg base bB 9 fT fdT ["_law_d","_law_deep_here","_law_names","_law_kinds"] (yH K 5):=QD DT T DP DO DN DL 4
 have GA:aJ P w K mg base bB 5 fA fdA ["_law_test_here"] (uN K bG 5):=Gr DA hsum 5
 refine F.ok N7 (by ext) fun cdv A outer s H vs Q E hr h=>?_
 obtain ⟨p,dc,q,q',ys,ys',rfl,D,hq,hq',ne,ne',l,l',nm,nm',k⟩:=h
 have hr1:bH 1 _:=hr.mono (by decide)
 have hr4:bH 4 _:=hr.mono (by decide)
 have hr5:bH 5 _:=hr.mono (by decide)
 refine ⟨_,(ak (aU (i:=3) N7.nd rfl (.inl rfl) (b_ DT GT hr (aa (pv 0) (aa (aX c7 au (b_ DP GP hr1 (aa (pv 0) (aa au aj)))) (aa (pv 1) (aa (pv 2) aj))))))
  (aq (aD (fJ (aG jH (b_ DA GA hr5 (aa (pv 3) aj)) au (aQ _)) (pv 3) (bN (aa aO (aa (b_ DL GL hr4 (aa (pv 0) (aa (pv 1) (aa (pv 2) aj)))) aj))))))),?_⟩
 refine ⟨_,rfl,_,rfl,p,dc,_,rfl,D,by decide,by decide,fun r H1 r0 r1 D1 b1=>⟨_,_,rfl,rfl,_,rfl,_,rfl,?_⟩⟩
 refine ⟨p,dc,q,q',ys,ys',1+r,rfl,by omega,D1,D.seq b1 hq,D.seq b1 hq',ne,ne',l,l',nm,nm',fun x d H2 rx tx D2 b2=>?_⟩
 have de:aY d≤5:=Nat.le_trans (yF tx.td tx.sh) tx.dp
 refine ⟨_,rfl,x,d,rfl,rx,tx.td,tx.sh,de,by decide,fun H3 s3=>⟨_,_,rfl,rfl,_,rfl,gD (fun h=>?_) (fun h=>?_)⟩⟩
 ·have h:bG d≤15:=by simp at h;omega
  exact ⟨_,rfl,k x d H3 (rx.same s3) tx (by unfold cJ;rw [tx.sh,decide_eq_true de,decide_eq_true h];rfl) (D2.mono s3) ((b1.trans b2).trans s3.but)⟩
 ·have b3:=(b1.trans b2).trans (s3.but (p:=p))
  refine ⟨_,rfl,_,rfl,_,rfl,p,dc,q,q',ys,ys',rfl,D2.mono s3,D.seq b3 hq,D.seq b3 hq',ne,ne',l,l',nm,nm',fun y f r H4 ry lf D4 b4=>⟨(by ext),fun t ht=>?_⟩⟩
  have t1:Tr 2 (.tuple [.str "not",.tuple (.str f::r)]):=lf.tr.one
  refine k _ _ _ (.tup (bI.of ao) (.cons (.str _) (.cons (ry.same (az.new ht)) .nil))) (t1.mono (by decide)) ?_ (D4.new ht) ((b3.trans b4).trans (cZ.new ht))
  have e1:aY (.tuple [.str "not",.tuple (.str f::r)])=2:=by
   show (if (arity "not").isSome=true then 1+max (if (arity f).isSome=true then 1+cB r else 1) 0 else 1)=2
   rw [lf.ar,show arity "not" = some 1 from by ext];rfl
  have e2:bG (.tuple [.str "not",.tuple (.str f::r)])=2:=by
   show (if (arity "not").isSome=true then 1+((if (arity f).isSome=true then 1+dX r else 1)+0) else 1)=2
   rw [lf.ar,show arity "not" = some 1 from by ext];rfl
  unfold cJ
  rw [t1.sh,e1,e2]
  rfl
def gG (nm:Str) (fs:List gr) (zs:List Int) (f:Str) (r:List PyData):Bool:=
 if f = "all" then true else match r with
 |[.str x]=>decide (nm=x)
 |[.str x,.int i]=>if x∈fs.map (·.1) then (if f = "less" then decide (zs.getD ((fs.map (·.1)).idxOf x) 0<i) else decide (zs.getD ((fs.map (·.1)).idxOf x) 0=i)) else false
 |_=>false
def dq (nm:Str) (fs:List gr) (zs:List Int):Nat->Str->List PyData->Bool
 |0,_,_=>false
 | n+1,f,r=>
   if f = "not" then (match r with
    |[.tuple (.str g::q)]=>!dq nm fs zs n g q
    |_=>false)
   else if f = "and" then (match r with
    |[.tuple (.str g::q),.tuple (.str h::p)]=>dq nm fs zs n g q && dq nm fs zs n h p
    |_=>false)
   else if f = "or" then (match r with
    |[.tuple (.str g::q),.tuple (.str h::p)]=>dq nm fs zs n g q || dq nm fs zs n h p
    |_=>false)
   else gG nm fs zs f r
structure MD (K:PySem.W.Frag) (C:Addr) (m qual:Str) (st:Stmt) (ps:List Str) (f:Addr) (fd:FuncData):Prop where
 M:Meth K C m f
 F:fK K m qual st f fd
 b:Binds K fd ps []
theorem pM (n:Str) (a:Addr):(kf n a).lookup ("place_of" : Str)=none/\(kf n a).lookup ("need" : Str)=none:=⟨Gx n a (by ext) (by ext),Gx n a (by ext) (by ext)⟩
def K9 (K:Frag) (C:Addr):Sp:=fun vs H Q _=>∃ (q o a b:Addr) (f nm:Str) (r:List PyData) (fs:List gr) (zs:List Int),vs=[.ref q,.ref o,.ref b]/\Rep K H (.ref q) (.tuple (.str f::r))/\jw f r/\dw C H o nm a fs/\fs.length≤4/\H b=some (.tup (zs.map V.int))/\zs.length=fs.length/\
 ∀ H',az H H'->Q (.bl (gG nm fs zs f r)) H'
abbrev XF:List Str:=["leaf","kind","values","form","place"]
theorem zU:aN XF ["leaf","kind","values"] (aA (top 44)):=by ext
theorem PK (F:fK K "passes_leaf" "passes_leaf" (top 44) f fd) (KC:KCls K mg C) (MP:MD K C "place_of" "Kind.place_of" (kM 3) ["self","field"] fM fdM) (GM:aJ P w K mg base bB 1 fM fdM ["self","field"] (vC C)):aJ P w K mg base bB 2 f fd ["leaf","kind","values"] (K9 K C):=by
 refine F.ok zU (by ext) fun cdv A outer s H vs Q E hr h=>?_
 obtain ⟨q,o,a,b,f,nm,r,fs,zs,rfl,rq,lf,ka,fl,hb,zl,k⟩:=h
 refine ⟨_,(ak (aU (i:=3) zU.nd rfl (.inl rfl) (a_ bz (pv 0) au (fun _ _=>rfl)))
  (ak (aZ (aG bQ (pv 3) aO (aQ _)) (aq (aD pq)) aK)
  (ak (aZ (aG bQ (pv 3) aO (aQ _)) (aq (aD (cU bQ (nT (pv 1) rfl) (a_ bz (pv 0) au (fun _ _=>rfl)) (aQ _)))) aK)
  (ak (aU (i:=4) zU.nd rfl (.inl rfl) (qe (E:=E0) (pv 1) KC.cl MP.M GM hr MP.b .nil jE (aa (a_ bz (pv 0) au (fun _ _=>rfl)) aj)))
  (ak (aZ (aG uJ (pv 4) lG (aQ _)) (aq (aD pq)) aK)
  (aq (aD (fJ (aG bQ (pv 3) aO (aQ _)) (cU jH (a_ bz (pv 2) (pv 4) (fun _ _=>rfl)) (a_ bz (pv 0) au (fun _ _=>rfl)) (aQ _)) (cU bQ (a_ bz (pv 2) (pv 4) (fun _ _=>rfl)) (a_ bz (pv 0) au (fun _ _=>rfl)) (aQ _)))))))))),?_⟩
 have ka0:=ka
 obtain ⟨⟨dx,ho⟩,_⟩:=ka0
 cases rq with
 |@tup _ xs _ sq rs=>
 cases lf with
 | all=>
   obtain ⟨x0,rfl⟩:∃ x0,xs=[x0]:=by
    cases rs with|cons r1 r2=>cases r2;exact ⟨_,rfl⟩
   cases rs with|cons r1 r2=>
   cases r1
   exact ⟨_,rfl,q,_,_,_,rfl,rfl,sq,aL (j:=0) rfl,_,rfl,rfl,_,rfl,cL (by ext) (k _ (az.refl _))⟩
 | @is x hx=>
   obtain ⟨x0,x1,rfl⟩:∃ x0 x1,xs=[x0,x1]:=by
    cases rs with|cons r1 r2=>cases r2 with|cons r2 r3=>cases r3;exact ⟨_,_,rfl⟩
   cases rs with|cons r1 r2=>
   cases r2 with|cons r2 r3=>
   cases r1
   cases r2
   refine ⟨_,rfl,q,_,_,_,rfl,rfl,sq,aL (j:=0) rfl,_,rfl,rfl,_,rfl,cg (by ext) ⟨_,rfl,rfl,_,rfl,cL (by ext) ?_⟩⟩
   refine ⟨_,rfl,o,C,dx,_,_,rfl,ho,KC.cl,KC.nN,Cu nm a,_,rfl,q,_,_,_,rfl,rfl,sq,aL (j:=1) rfl,rfl,?_⟩
   have e:decide (V.str nm=V.str x)=gG nm fs zs "is" [.str x]:=by
    unfold gG
    rw [if_neg (by ext)]
    simp
   show Q (.bl (decide (V.str nm=V.str x))) H
   rw [e]
   exact k _ (az.refl _)
 | @num f' x i hf hx hi=>
   obtain ⟨x0,x1,x2,rfl⟩:∃ x0 x1 x2,xs=[x0,x1,x2]:=by
    cases rs with|cons r1 r2=>cases r2 with|cons r2 r3=>cases r3 with|cons r3 r4=>cases r4;exact ⟨_,_,_,rfl⟩
   cases rs with|cons r1 r2=>
   cases r2 with|cons r2 r3=>
   cases r3 with|cons r3 r4=>
   cases r1
   cases r2
   cases r3
   have n1:decide (V.str f=V.str "all")=false:=by rcases hf with rfl|rfl <;> decide +kernel
   have n2:decide (V.str f=V.str "is")=false:=by rcases hf with rfl|rfl <;> decide +kernel
   have n3:¬ f = "all":=by rcases hf with rfl|rfl <;> decide +kernel
   refine ⟨_,rfl,q,_,_,_,rfl,rfl,sq,aL (j:=0) rfl,_,rfl,rfl,_,rfl,cg n1 ⟨_,rfl,rfl,_,rfl,cg n2 ?_⟩⟩
   refine ⟨_,rfl,o,dx,_,rfl,ho,(pM nm a).1,_,rfl,q,_,_,_,rfl,rfl,sq,aL (j:=1) rfl,o,a,nm,x,fs,rfl,ka,fl,fun H1 s1=>?_⟩
   have sq1:=s1.tup sq
   have hb1:=s1 _ _ hb
   unfold gG at k
   rw [if_neg n3] at k
   unfold qI
   by_cases hin:x∈fs.map (·.1)
   ·rw [if_pos hin]
    have k:∀ H',az H H'->Q (.bl (if f = "less" then decide (zs.getD ((fs.map (·.1)).idxOf x) 0<i) else decide (zs.getD ((fs.map (·.1)).idxOf x) 0=i))) H':=fun H' s'=>by
     have:=k H' s'
     dsimp only at this
     rw [if_pos hin] at this
     exact this
    have il:(fs.map (·.1)).idxOf x<zs.length:=by
     have:=List.idxOf_lt_length_iff.mpr hin
     rw [List.length_map] at this
     omega
    have eg:zs.getD ((fs.map (·.1)).idxOf x) 0=zs[(fs.map (·.1)).idxOf x]:=by simp [List.getD_eq_getElem?_getD,il]
    rw [eg] at k
    refine ⟨_,rfl,rfl,_,rfl,cg (by simp) ?_⟩
    have at1:qJ (zs.map V.int) (((fs.map (·.1)).idxOf x:Nat):Int)=some (.int zs[(fs.map (·.1)).idxOf x]):=aL (by rw [List.getElem?_map,List.getElem?_eq_getElem il];rfl)
    refine ⟨_,rfl,rfl,_,rfl,?_⟩
    rcases hf with rfl|rfl
    ·refine cL (by ext) ?_
     have:=k _ s1
     rw [if_pos rfl] at this
     exact ⟨_,rfl,_,rfl,b,_,_,_,rfl,rfl,bI.of hb1,at1,_,rfl,q,_,_,_,rfl,rfl,sq1,aL (j:=2) rfl,_,_,rfl,rfl,this⟩
    ·refine cg (by ext) ?_
     have:=k _ s1
     rw [if_neg (by ext)] at this
     refine ⟨_,rfl,_,rfl,b,_,_,_,rfl,rfl,bI.of hb1,at1,_,rfl,q,_,_,_,rfl,rfl,sq1,aL (j:=2) rfl,rfl,?_⟩
     have e:decide (V.int zs[(fs.map (·.1)).idxOf x]=V.int i)=decide (zs[(fs.map (·.1)).idxOf x]=i):=by simp
     rw [e]
     exact this
   ·rw [if_neg hin]
    have k:∀ H',az H H'->Q (.bl false) H':=fun H' s'=>by
     have:=k H' s'
     dsimp only at this
     rw [if_neg hin] at this
     exact this
    exact ⟨_,rfl,rfl,_,rfl,cL (by ext) (k _ s1)⟩
def cF (nm:Str) (fs:List gr) (zs:List Int):PyData->Bool
 |.tuple (.str f::r)=>dq nm fs zs 5 f r
 |_=>false
theorem pL (N:Node n f r) (tr:∀ d∈r,TD d):(f = "not"/\∃ g q,r=[.tuple (.str g::q)])∨((f = "and"∨f = "or")/\∃ g q h p,r=[.tuple (.str g::q),.tuple (.str h::p)]):=by
 have ar:=N.ar
 unfold arity at ar
 by_cases h1:f = "not"
 ·rw [if_pos h1] at ar
  injection ar with ar
  left
  refine ⟨h1,?_⟩
  match r,ar,N,tr with
  | [x],_,N,tr=>
    obtain ⟨g,q,rfl⟩:=bC (tr x (by simp)) (N.sh x (by simp))
    exact ⟨g,q,rfl⟩
 ·rw [if_neg h1] at ar
  right
  have two:∀ {r:List PyData},2=r.length->(∀ d∈r,TD d)->(∀ d∈r,bA d=true)->∃ g q h p,r=[.tuple (.str g::q),.tuple (.str h::p)]:=by
   intro r e t s
   match r,e,t,s with
   | [x,y],_,t,s=>
     obtain ⟨g,q,rfl⟩:=bC (t x (by simp)) (s x (by simp))
     obtain ⟨h,p,rfl⟩:=bC (t y (by simp)) (s y (by simp))
     exact ⟨g,q,h,p,rfl⟩
  by_cases h2:f = "and"
  ·rw [if_pos h2] at ar
   injection ar with ar
   exact ⟨.inl h2,two ar tr N.sh⟩
  ·rw [if_neg h2] at ar
   by_cases h3:f = "or"
   ·rw [if_pos h3] at ar
    injection ar with ar
    exact ⟨.inr h3,two ar tr N.sh⟩
   ·rw [if_neg h3] at ar
    cases ar
theorem pB (h:arity f=none):¬ f = "not"/\¬ f = "and"/\¬ f = "or":=by
 unfold arity at h
 refine ⟨fun z=>?_,fun z=>?_,fun z=>?_⟩
 ·rw [if_pos z] at h;cases h
 ·by_cases h1:f = "not"
  ·rw [if_pos h1] at h;cases h
  ·rw [if_neg h1,if_pos z] at h;cases h
 ·by_cases h1:f = "not"
  ·rw [if_pos h1] at h;cases h
  ·rw [if_neg h1] at h
   by_cases h2:f = "and"
   ·rw [if_pos h2] at h;cases h
   ·rw [if_neg h2,if_pos z] at h;cases h
theorem dU (h:¬ f=g):decide (V.str f=V.str g)=false:=by
 rw [decide_eq_false_iff_not,V.str.injEq];exact h
section
variable {P:Program} {w:World} {K:PySem.W.Frag} {mg:Str->Option Value} {base:Heap}
structure Ik (K:Frag) (C:Addr) (n:Nat) (H:Hp) (q o a b:Addr) (f nm:Str) (r:List PyData) (fs:List gr) (zs:List Int):Prop where
 rq:Rep K H (.ref q) (.tuple (.str f::r))
 td:TD (.tuple (.str f::r))
 sh:bA (.tuple (.str f::r))=true
 de:aY (.tuple (.str f::r))≤n
 ka:dw C H o nm a fs
 fl:fs.length≤4
 hb:H b=some (.tup (zs.map V.int))
 zl:zs.length=fs.length
def EY (K:Frag) (C:Addr) (n:Nat):Sp:=fun vs H Q _=>∃ (q o a b:Addr) (f nm:Str) (r:List PyData) (fs:List gr) (zs:List Int),vs=[.ref q,.ref o,.ref b]/\Ik K C n H q o a b f nm r fs zs/\∀ H',az H H'->Q (.bl (dq nm fs zs n f r)) H'
abbrev W_:List Str:=["test","kind","values","form"]
theorem QV:aN W_ ["test","kind","values"] (aA (top 43)):=by ext
theorem O5 (DP:cj K mg "passes" (top 43) ["test","kind","values"] f fd) (DL:cj K mg "passes_leaf" (top 44) ["leaf","kind","values"] fL fdL) (GL:aJ P w K mg base bB 2 fL fdL ["leaf","kind","values"] (K9 K C)) (n:Nat):aJ P w K mg base bB (n+2) f fd ["test","kind","values"] (EY K C n):=by
 refine Nat.rec (motive:=fun n=>aJ P w K mg base bB (n+2) f fd ["test","kind","values"] (EY K C n)) ⟨fun _ _ _ _ h=>?_,fun _ _ _ _ _ _ _ _ _ _ _ _ _ h=>?_⟩ (fun n GP=>?_) n
 ·obtain ⟨q,o,a,b,f,nm,r,fs,zs,_,h,_⟩:=h
  exact absurd (Nat.le_trans (bT _) h.de) (by decide)
 ·obtain ⟨q,o,a,b,f,nm,r,fs,zs,_,h,_⟩:=h
  exact absurd (Nat.le_trans (bT _) h.de) (by decide)
 refine DP.F.ok QV (by ext) fun cdv A outer s H vs Q E hr h=>?_
 obtain ⟨q,o,a,b,f,nm,r,fs,zs,rfl,h,k⟩:=h
 have hr2:bH 2 _:=hr.mono (show 2≤n+2 by omega)
 refine ⟨_,(ak (aU (i:=3) QV.nd rfl (.inl rfl) (a_ bz (pv 0) au (fun _ _=>rfl)))
  (ak (aZ (aG bQ (pv 3) aO (aQ _)) (aq (aD (zf (b_ DP GP hr (aa (a_ bz (pv 0) au (fun _ _=>rfl)) (aa (pv 1) (aa (pv 2) aj))))))) aK)
  (ak (aZ (aG bQ (pv 3) aO (aQ _)) (aq (aD (cY (b_ DP GP hr (aa (a_ bz (pv 0) au (fun _ _=>rfl)) (aa (pv 1) (aa (pv 2) aj)))) (eV (b_ DP GP hr (aa (a_ bz (pv 0) au (fun _ _=>rfl)) (aa (pv 1) (aa (pv 2) aj)))))))) aK)
  (ak (aZ (aG bQ (pv 3) aO (aQ _)) (aq (aD (Gb (b_ DP GP hr (aa (a_ bz (pv 0) au (fun _ _=>rfl)) (aa (pv 1) (aa (pv 2) aj)))) (eV (b_ DP GP hr (aa (a_ bz (pv 0) au (fun _ _=>rfl)) (aa (pv 1) (aa (pv 2) aj)))))))) aK)
  (aq (aD (b_ DL GL hr2 (aa (pv 0) (aa (pv 1) (aa (pv 2) aj)))))))))),?_⟩
 obtain ⟨rq,td,sh,de,ka,fl,hb,zl⟩:=h
 have rq0:=rq
 cases td with
 |node af lf nr tr=>
 cases rq with
 |@tup _ xs _ sq rs=>
 obtain ⟨x0,ys,rfl⟩:∃ x0 ys,xs=x0::ys:=by cases rs;exact ⟨_,_,rfl⟩
 obtain ⟨r0,rt⟩:Rep K H x0 (.str f)/\bF K H ys r:=by cases rs with|cons a b=>exact ⟨a,b⟩
 cases r0
 refine ⟨_,rfl,q,_,_,_,rfl,rfl,sq,aL (j:=0) rfl,_,rfl,rfl,_,rfl,?_⟩
 unfold dq at k
 rcases dm sh de with ⟨ha,hlf⟩|N
 ·obtain ⟨n1,n2,n3⟩:=pB ha
  rw [if_neg n1,if_neg n2,if_neg n3] at k
  refine cg (dU n1) ⟨_,rfl,rfl,_,rfl,cg (dU n2) ⟨_,rfl,rfl,_,rfl,cg (dU n3) ?_⟩⟩
  exact ⟨_,rfl,_,rfl,_,rfl,q,o,a,b,f,nm,r,fs,zs,rfl,rq0,iQ hlf,ka,fl,hb,zl,k⟩
 ·rcases pL N tr with ⟨rfl,g,u,rfl⟩|⟨hf,g,u,h,v,rfl⟩
  ·rw [if_pos rfl] at k
   cases rt with
   |@cons y1 _ y2 _ r1 r2=>
   cases r2
   cases r1 with
   |@tup q1 z1 _ s1 t1=>
   refine cL (by ext) ⟨_,rfl,q,_,_,_,rfl,rfl,sq,aL (j:=1) rfl,_,rfl,_,rfl,q1,o,a,b,g,nm,u,fs,zs,rfl,⟨.tup s1 t1,tr _ (by simp),N.sh _ (by simp),N.de _ (by simp),ka,fl,hb,zl⟩,fun H1 e1=>⟨_,rfl,k H1 e1⟩⟩
  ·cases rt with
   |@cons y1 _ y2 _ r1 r2=>
   cases r2 with
   |@cons y3 _ y4 _ r2 r3=>
   cases r3
   cases r1 with
   |@tup q1 z1 _ s1 t1=>
   cases r2 with
   |@tup q2 z2 _ s2 t2=>
   have i1:∀ {H1},az H H1->Ik K C n H1 q1 o a b g nm u fs zs:=fun e=>⟨.tup (e.tup s1) (t1.same e),tr _ (by simp),N.sh _ (by simp),N.de _ (by simp),ka.same e,fl,e _ _ hb,zl⟩
   have i2:∀ {H1},az H H1->Ik K C n H1 q2 o a b h nm v fs zs:=fun e=>⟨.tup (e.tup s2) (t2.same e),tr _ (by simp),N.sh _ (by simp),N.de _ (by simp),ka.same e,fl,e _ _ hb,zl⟩
   rcases hf with rfl|rfl
   ·rw [if_neg (by ext),if_pos rfl] at k
    refine cg (by ext) ⟨_,rfl,rfl,_,rfl,cL (by ext) ?_⟩
    refine ⟨_,rfl,q,_,_,_,rfl,rfl,sq,aL (j:=1) rfl,_,rfl,_,rfl,q1,o,a,b,g,nm,u,fs,zs,rfl,i1 (az.refl _),fun H1 e1=>⟨_,rfl,?_⟩⟩
    dsimp only at k
    cases hp:dq nm fs zs n g u with
    |false=>rw [hp,Bool.false_and] at k;exact cg rfl (k _ e1)
    | true=>
      rw [hp,Bool.true_and] at k
      exact cL rfl ⟨_,rfl,q,_,_,_,rfl,rfl,e1.tup sq,aL (j:=2) rfl,_,rfl,_,rfl,q2,o,a,b,h,nm,v,fs,zs,rfl,i2 e1,fun H2 e2=>k _ (e1.trans e2)⟩
   ·rw [if_neg (by ext),if_neg (by ext),if_pos rfl] at k
    refine cg (by ext) ⟨_,rfl,rfl,_,rfl,cg (by ext) ⟨_,rfl,rfl,_,rfl,cL (by ext) ?_⟩⟩
    refine ⟨_,rfl,q,_,_,_,rfl,rfl,sq,aL (j:=1) rfl,_,rfl,_,rfl,q1,o,a,b,g,nm,u,fs,zs,rfl,i1 (az.refl _),fun H1 e1=>⟨_,rfl,?_⟩⟩
    dsimp only at k
    cases hp:dq nm fs zs n g u with
    |true=>rw [hp,Bool.true_or] at k;exact cL rfl (k _ e1)
    | false=>
      rw [hp,Bool.false_or] at k
      exact cg rfl ⟨_,rfl,q,_,_,_,rfl,rfl,e1.tup sq,aL (j:=2) rfl,_,rfl,_,rfl,q2,o,a,b,h,nm,v,fs,zs,rfl,i2 e1,fun H2 e2=>k _ (e1.trans e2)⟩
end
def lx:List Int->List Int->Bool
 |a::as,b::bs=>decide (a<b) || (decide (a=b) && lx as bs)
 |_,_=>false
theorem yW:∀ a:List Int,lx a a=false
 |[]=>rfl
 |a::as=>by simp [lx,yW as]
theorem nJ:∀ {a b c:List Int},lx a b=true->lx b c=true->lx a c=true
 | a::as,b::bs,c::cs,h1,h2=>by
   simp only [lx,Bool.or_eq_true,Bool.and_eq_true,decide_eq_true_eq] at h1 h2 ⊢
   rcases h1 with h1|⟨h1,h1'⟩ <;> rcases h2 with h2|⟨h2,h2'⟩
   ·exact .inl (by omega)
   ·exact .inl (by omega)
   ·exact .inl (by omega)
   ·exact .inr ⟨by omega,nJ h1' h2'⟩
 |[],b,_,h1,_=>by simp [lx] at h1
 |_::_,[],_,h1,_=>by simp [lx] at h1
 |_::_,_::_,[],_,h2=>by simp [lx] at h2
theorem yZ (h1:lx a b=true) (h2:lx b a=true):False:=by
 have:=nJ h1 h2
 rw [yW] at this
 cases this
theorem Ag:∀ {a b s t:List Int},lx a b=true->lx (a++s) (b++t)=true
 | a::as,b::bs,s,t,h=>by
   simp only [lx,List.cons_append,Bool.or_eq_true,Bool.and_eq_true,decide_eq_true_eq] at h ⊢
   rcases h with h|⟨h,h'⟩
   ·exact .inl h
   ·exact .inr ⟨h,Ag h'⟩
 |[],b,_,_,h=>by simp [lx] at h
 |_::_,[],_,_,h=>by simp [lx] at h
theorem vL:∀ (r:List Int) {u v:Int},u<v->lx (r++[u]) (r++[v])=true
 |[],u,v,h=>by simp [lx,h]
 |a::r,u,v,h=>by simp [lx,vL r h]
theorem Ge:∀ {a b:List Int},Paired (fun x y:Int=>x≤y) a b->a=b∨lx a b=true
 |_,_,.nil=>.inl rfl
 | x::_,y::_,.cons h t=>by
   have h:x≤y:=h
   rcases Ge t with e|e
   ·subst e
    by_cases z:x=y
    ·exact .inl (by rw [z])
    ·exact .inr (by simp only [lx,Bool.or_eq_true,decide_eq_true_eq];exact .inl (by omega))
   ·refine .inr ?_
    simp only [lx,Bool.or_eq_true,Bool.and_eq_true,decide_eq_true_eq]
    by_cases z:x=y
    ·exact .inr ⟨z,e⟩
    ·exact .inl (by omega)
def ext (rows:List (List Int)) (ts:List Int):List (List Int):=rows.flatMap fun r=>ts.map fun v=>r++[v]
theorem uU:x∈ext rows ts↔∃ r∈rows,∃ v∈ts,x=r++[v]:=by
 unfold ext
 simp only [List.mem_flatMap,List.mem_map]
 exact ⟨fun ⟨r,hr,v,hv,e⟩=>⟨r,hr,v,hv,e.symm⟩,fun ⟨r,hr,v,hv,e⟩=>⟨r,hr,v,hv,e.symm⟩⟩
theorem Jh (h1:rows.Pairwise fun a b=>lx a b=true) (h2:ts.Pairwise (·<·)):(ext rows ts).Pairwise fun a b=>lx a b=true:=by
 unfold ext
 rw [List.pairwise_flatMap]
 refine ⟨fun r _=>?_,h1.imp fun {r r'} h x hx y hy=>?_⟩
 ·rw [List.pairwise_map]
  exact h2.imp fun {u v} h=>vL r h
 ·obtain ⟨u,_,rfl⟩:=List.mem_map.mp hx
  obtain ⟨v,_,rfl⟩:=List.mem_map.mp hy
  exact Ag h
theorem kY:(ext rows ts).length=rows.length*ts.length:=by
 unfold ext
 induction rows with
 |nil=>simp
 |cons r t ih=>rw [List.flatMap_cons,List.length_append,ih,List.length_map,List.length_cons,Nat.succ_mul,Nat.add_comm]
def gV (tss:List (List Int)):List (List Int):=tss.foldl ext [[]]
theorem nP (tss:List (List Int)) (ts:List Int):gV (tss++[ts])=ext (gV tss) ts:=by unfold gV;rw [List.foldl_append];rfl
theorem zF (h:∀ ts∈tss,ts.Pairwise (·<·)):(gV tss).Pairwise fun a b=>lx a b=true:=by
 have go:∀ (tss rows:List (List Int)),rows.Pairwise (fun a b=>lx a b=true)->(∀ ts∈tss,ts.Pairwise (·<·))->(tss.foldl ext rows).Pairwise fun a b=>lx a b=true:=by
  intro tss
  induction tss with
  |nil=>intro rows h _;exact h
  |cons ts t ih=>intro rows h1 h2;exact ih _ (Jh h1 (h2 ts (.head _))) fun x hx=>h2 x (.tail _ hx)
 exact go tss [[]] (List.pairwise_singleton _ _) h
theorem gO:x∈gV tss↔Paired (fun (v:Int) (ts:List Int)=>v∈ts) x tss:=by
 have go:∀ (tss rows:List (List Int)) (x:List Int),x∈tss.foldl ext rows↔∃ r∈rows,∃ y,x=r++y/\Paired (fun (v:Int) (ts:List Int)=>v∈ts) y tss:=by
  intro tss
  induction tss with
  | nil=>
    intro rows x
    refine ⟨fun h=>⟨x,h,[],(List.append_nil _).symm,.nil⟩,fun ⟨r,hr,y,e,p⟩=>?_⟩
    cases p
    rw [List.append_nil] at e
    subst e
    exact hr
  | cons ts t ih=>
    intro rows x
    show x∈t.foldl ext (ext rows ts)↔_
    rw [ih]
    constructor
    ·rintro ⟨r,hr,y,rfl,p⟩
     obtain ⟨r',hr',v,hv,rfl⟩:=uU.mp hr
     exact ⟨r',hr',v::y,by simp,.cons hv p⟩
    ·rintro ⟨r,hr,y,rfl,p⟩
     cases p with
     |@cons v _ y' _ hv p=>exact ⟨r++[v],uU.mpr ⟨r,hr,v,hv,rfl⟩,y',by simp,p⟩
 unfold gV
 rw [go]
 constructor
 ·rintro ⟨r,hr,y,rfl,p⟩
  cases List.mem_singleton.mp hr
  exact p
 ·exact fun p=>⟨[],List.mem_singleton.mpr rfl,x,rfl,p⟩
theorem qT {rows:List (List Int)} {p:List Int->Bool} (h:rows.Pairwise fun a b=>lx a b=true) (e:rows.find? p=some c):c∈rows/\p c=true/\∀ x∈rows,p x=true->c=x∨lx c x=true:=by
 refine ⟨List.mem_of_find?_eq_some e,List.find?_some e,fun x hx px=>?_⟩
 obtain ⟨_,as,bs,rfl,no⟩:=List.find?_eq_some_iff_append.mp e
 rcases List.mem_append.mp hx with hx|hx
 ·have:=no x hx
  rw [px] at this
  cases this
 ·rcases List.mem_cons.mp hx with hx|hx
  ·exact .inl hx.symm
  ·exact .inr ((List.pairwise_cons.mp (List.pairwise_append.mp h).2.1).1 x hx)
def yu (x:Str):PyData->List Int
 |.tuple [.str f,.str y,.int i]=>if f = "less"∨f = "same" then (if y=x then (if f = "same" then [i,i+1] else [i]) else []) else []
 |_=>[]
def tvs (x:Str) (L:List PyData):List Int:=L.flatMap (yu x)
structure nO (L:List PyData) (f:gr) (ts:List Int):Prop where
 up:ts.Pairwise (·<·)
 mem:∀ v,v∈ts↔(v=f.2.1∨v∈tvs f.1 L)/\f.2.1≤v/\v≤f.2.2
def vJ:List Int->List gr->Prop:=Paired fun (z:Int) (f:gr)=>f.2.1≤z/\z≤f.2.2
structure Snap (L:List PyData) (f:gr) (z c:Int):Prop where
 le:c≤z
 lo:f.2.1≤c
 hi:z≤f.2.2
 top:∀ t,(t=f.2.1∨t∈tvs f.1 L)->f.2.1≤t->t≤z->t≤c
theorem zr (z:Int):∀ ts:List Int,(∃ t∈ts,t≤z)->∃ c∈ts,c≤z/\∀ t∈ts,t≤z->t≤c
 |[],⟨t,h,_⟩=>by cases h
 | a::r,h=>by
   by_cases hr:∃ t∈r,t≤z
   ·obtain ⟨c,hc,c1,c2⟩:=zr z r hr
    by_cases ha:a≤z/\c≤a
    ·refine ⟨a,.head _,ha.1,fun t ht tz=>?_⟩
     rcases List.mem_cons.mp ht with rfl|ht
     ·exact Int.le_refl _
     ·exact Int.le_trans (c2 t ht tz) ha.2
    ·refine ⟨c,.tail _ hc,c1,fun t ht tz=>?_⟩
     rcases List.mem_cons.mp ht with rfl|ht
     ·omega
     ·exact c2 t ht tz
   ·obtain ⟨t,ht,tz⟩:=h
    rcases List.mem_cons.mp ht with rfl|ht
    ·refine ⟨t,.head _,tz,fun u hu uz=>?_⟩
     rcases List.mem_cons.mp hu with rfl|hu
     ·exact Int.le_refl _
     ·exact absurd ⟨u,hu,uz⟩ hr
    ·exact absurd ⟨t,ht,tz⟩ hr
theorem vI:∀ {fs:List gr} {tss:List (List Int)} {zs:List Int},Paired (nO L) fs tss->vJ zs fs->∃ cs,Paired (fun (v:Int) (ts:List Int)=>v∈ts) cs tss/\Paired (fun x y:Int=>x≤y) cs zs/\∀ (j:Nat) (f:gr),fs[j]?=some f->Snap L f (zs.getD j 0) (cs.getD j 0)
 |_,_,_,.nil,.nil=>⟨[],.nil,.nil,fun j f e=>by simp at e⟩
 | f::_,ts::_,z::_,.cons s t,.cons b u=>by
   obtain ⟨cs,h1,h2,h3⟩:=vI t u
   obtain ⟨c,hc,c1,c2⟩:=zr z ts ⟨f.2.1,(s.mem _).mpr ⟨.inl rfl,Int.le_refl _,Int.le_trans b.1 b.2⟩,b.1⟩
   refine ⟨c::cs,.cons hc h1,.cons c1 h2,fun j g e=>?_⟩
   cases j with
   | zero=>
     cases e
     exact ⟨c1,((s.mem _).mp hc).2.1,b.2,fun t' h l tz=>c2 t' ((s.mem _).mpr ⟨h,l,Int.le_trans tz b.2⟩) tz⟩
   |succ j=>exact h3 j g (by simpa using e)
theorem tH:∀ {fs:List gr} {tss:List (List Int)} {cs:List Int},Paired (nO L) fs tss->Paired (fun (v:Int) (ts:List Int)=>v∈ts) cs tss->vJ cs fs
 |_,_,_,.nil,.nil=>.nil
 |_,_,_,.cons s t,.cons h u=>.cons ((s.mem _).mp h).2 (tH t u)
theorem xY (h:∀ (j:Nat) (g:gr),fs[j]?=some g->Snap L g (zs.getD j 0) (cs.getD j 0)) (lf:jw f r) (m:.tuple (.str f::r)∈L):gG nm fs zs f r=gG nm fs cs f r:=by
 cases lf with
 |all=>rfl
 |is _=>rfl
 | @num f x i hf hx hi=>
   unfold gG
   by_cases h0:f = "all"
   ·rw [if_pos h0,if_pos h0]
   rw [if_neg h0,if_neg h0]
   dsimp only
   by_cases hin:x∈fs.map (·.1)
   ·rw [if_pos hin,if_pos hin]
    have il:=List.idxOf_lt_length_iff.mpr hin
    have il2:=il
    rw [List.length_map] at il2
    have e1:(fs.map (·.1))[(fs.map (·.1)).idxOf x]=x:=List.getElem_idxOf il
    generalize (fs.map (·.1)).idxOf x=j at il il2 e1 ⊢
    have s:=h j fs[j] (List.getElem?_eq_getElem il2)
    have e2:fs[j].1=x:=by rw [List.getElem_map] at e1;exact e1
    have ls:¬ (("less" : Str) = "same"):=by decide
    have tm:∀ v,v∈yu x (.tuple [.str f,.str x,.int i])->v∈tvs fs[j].1 L:=fun v hv=>by
     rw [e2]
     exact List.mem_flatMap.mpr ⟨_,m,hv⟩
    have le:=s.le
    have lo:=s.lo
    have hi':=s.hi
    rcases hf with rfl|rfl
    ·rw [if_pos rfl,if_pos rfl,decide_eq_decide]
     have t1:=s.top i (.inr (tm i (by simp [yu,ls])))
     constructor
     ·intro z;omega
     ·intro z
      refine Classical.byContradiction fun q=>?_
      by_cases l:fs[j].2.1≤i
      ·have:=t1 l (by omega);omega
      ·omega
    ·rw [if_neg (by decide),if_neg (by decide),decide_eq_decide]
     have t1:=s.top i (.inr (tm i (by simp [yu])))
     have t2:=s.top (i+1) (.inr (tm (i+1) (by simp [yu])))
     constructor
     ·intro z
      have:=t1 (by omega) (by omega)
      omega
     ·intro z
      refine Classical.byContradiction fun q=>?_
      have:=t2 (by omega) (by omega)
      omega
   ·rw [if_neg hin,if_neg hin]
theorem j4:∀ {n:Nat} {d:PyData},TD d->bA d=true->aY d≤n->∀ e∈gb d,∃ f r,e=.tuple (.str f::r)/\jw f r
 |0,d,_,_,h=>by have:=bT d;omega
 | n+1,d,td,sh,h=>by
   obtain ⟨f,r,rfl⟩:=bC td sh
   intro e he
   have eq:gb (.tuple (.str f::r))=if (arity f).isSome=true then dZ r else [.tuple (.str f::r)]:=rfl
   rw [eq] at he
   cases td with
   |node a b c tr=>
   rcases dm sh h with ⟨ha,lf⟩|N
   ·rw [ha] at he
    simp at he
    exact ⟨f,r,he,iQ lf⟩
   ·rw [N.ar] at he
    simp only [Option.isSome_some,if_true] at he
    have a2:=dh N.ar
    match r,a2,N,tr,he with
    | [x],_,N,tr,he=>
      rw [bR] at he
      exact j4 (tr x (by simp)) (N.sh x (by simp)) (N.de x (by simp)) e he
    | [x,y],_,N,tr,he=>
      have:dZ [x,y]=gb x++gb y:=by rw [show [x,y]=[x]++[y] from rfl,fj,bR,bR]
      rw [this,List.mem_append] at he
      rcases he with he|he
      ·exact j4 (tr x (by simp)) (N.sh x (by simp)) (N.de x (by simp)) e he
      ·exact j4 (tr y (by simp)) (N.sh y (by simp)) (N.de y (by simp)) e he
    |_::_::_::_,a2,_,_,_=>simp at a2
    |[],a2,_,_,_=>simp at a2
theorem gn:∀ (n:Nat) (f:Str) (r:List PyData),(∀ g q,.tuple (.str g::q)∈gb (.tuple (.str f::r))->gG nm fs zs g q=gG nm fs cs g q)->dq nm fs zs n f r=dq nm fs cs n f r
 |0,_,_,_=>rfl
 | n+1,f,r,h=>by
   have eq:gb (.tuple (.str f::r))=if (arity f).isSome=true then dZ r else [.tuple (.str f::r)]:=rfl
   rw [eq] at h
   have one:∀ (g:Str) (q:List PyData),dZ [.tuple (.str g::q)]=gb (.tuple (.str g::q)):=fun g q=>bR _
   have two:∀ (a b:PyData),dZ [a,b]=gb a++gb b:=fun a b=>by rw [show [a,b]=[a]++[b] from rfl,fj,bR,bR]
   unfold dq
   by_cases h1:f = "not"
   ·rw [if_pos h1,if_pos h1]
    rw [h1,show (arity "not").isSome=true from by ext,if_pos rfl] at h
    split
    ·rename_i g q
     rw [one] at h
     rw [gn n g q h]
    ·rfl
   ·rw [if_neg h1,if_neg h1]
    by_cases h2:f = "and"
    ·rw [if_pos h2,if_pos h2]
     rw [h2,show (arity "and").isSome=true from by ext,if_pos rfl] at h
     split
     ·rename_i g q g' q'
      rw [two] at h
      rw [gn n g q fun a b m=>h a b (List.mem_append_left _ m),gn n g' q' fun a b m=>h a b (List.mem_append_right _ m)]
     ·rfl
    ·rw [if_neg h2,if_neg h2]
     by_cases h3:f = "or"
     ·rw [if_pos h3,if_pos h3]
      rw [h3,show (arity "or").isSome=true from by ext,if_pos rfl] at h
      split
      ·rename_i g q g' q'
       rw [two] at h
       rw [gn n g q fun a b m=>h a b (List.mem_append_left _ m),gn n g' q' fun a b m=>h a b (List.mem_append_right _ m)]
      ·rfl
     ·rw [if_neg h3,if_neg h3]
      have ha:arity f=none:=by unfold arity;rw [if_neg h1,if_neg h2,if_neg h3]
      rw [ha] at h
      exact h f r (by simp)
structure ou (d:PyData):Prop where
 td:TD d
 ok:cJ d=true
theorem ou.sh (t:ou d):bA d=true:=by
 have:=t.ok
 unfold cJ at this
 rw [Bool.and_eq_true] at this
 exact this.1
theorem ou.de (t:ou d):aY d≤5:=by
 have:=t.ok
 unfold cJ at this
 rw [Bool.and_eq_true,Bool.and_eq_true,decide_eq_true_eq] at this
 exact this.2.1
theorem ou.few (t:ou d):(gb d).length≤8:=by
 have h:=t.ok
 unfold cJ at h
 rw [Bool.and_eq_true,Bool.and_eq_true,decide_eq_true_eq,decide_eq_true_eq] at h
 have:=je t.td t.sh t.de
 omega
theorem ou.form (t:ou d):∃ f r,d=.tuple (.str f::r):=bC t.td t.sh
theorem ou.same (t:ou d) (sub:∀ e∈gb d,e∈L) (h:∀ (j:Nat) (g:gr),fs[j]?=some g->Snap L g (zs.getD j 0) (cs.getD j 0)):cF nm fs zs d=cF nm fs cs d:=by
 obtain ⟨f,r,rfl⟩:=t.form
 show dq nm fs zs 5 f r=dq nm fs cs 5 f r
 refine gn 5 f r fun g q m=>?_
 obtain ⟨f',r',e,lf⟩:=j4 t.td t.sh t.de _ m
 injection e with e
 injection e with e1 e2
 injection e1 with e1
 subst e1 e2
 exact xY h lf (sub _ m)
def dR (nm:Str) (fs:List gr) (d e:PyData) (zs:List Int):Bool:=cF nm fs zs d != cF nm fs zs e
def lL (nm:Str) (fs:List gr) (d e:PyData):Option (List Int)->Prop
 |none=>∀ zs,vJ zs fs->dR nm fs d e zs=false
 |some c=>vJ c fs/\dR nm fs d e c=true/\∀ zs,vJ zs fs->dR nm fs d e zs=true->c=zs∨lx c zs=true
theorem z8 (td:ou d) (te:ou e) (st:Paired (nO (gb d++gb e)) fs tss):lL nm fs d e ((gV tss).find? (dR nm fs d e)):=by
 have up:(gV tss).Pairwise fun a b=>lx a b=true:=zF fun ts hts=>by
  obtain ⟨i,hi⟩:=List.getElem?_of_mem hts
  have:∀ {fs:List gr} {tss:List (List Int)} {i:Nat} {ts:List Int},Paired (nO (gb d++gb e)) fs tss->tss[i]?=some ts->ts.Pairwise (·<·):=by
   intro fs tss i ts p
   induction p generalizing i with
   |nil=>intro z;simp at z
   | cons a _ ih=>
     intro z
     cases i with
     |zero=>cases z;exact a.up
     |succ i=>exact ih (by simpa using z)
  exact this st hi
 have down:∀ zs,vJ zs fs->dR nm fs d e zs=true->∃ c∈gV tss,dR nm fs d e c=true/\(c=zs∨lx c zs=true):=fun zs b h=>by
  obtain ⟨cs,c1,c2,c3⟩:=vI st b
  refine ⟨cs,gO.mpr c1,?_,Ge c2⟩
  unfold dR at h ⊢
  rw [← td.same (fun x hx=>List.mem_append_left _ hx) c3,← te.same (fun x hx=>List.mem_append_right _ hx) c3]
  exact h
 cases hf:(gV tss).find? (dR nm fs d e) with
 | none=>
   intro zs b
   refine Bool.eq_false_iff.mpr fun h=>?_
   obtain ⟨c,hc,pc,_⟩:=down zs b h
   exact absurd pc (List.find?_eq_none.mp hf c hc)
 | some c=>
   obtain ⟨h1,h2,h3⟩:=qT up hf
   refine ⟨tH st (gO.mp h1),h2,fun zs b h=>?_⟩
   obtain ⟨x,hx,px,lx'⟩:=down zs b h
   rcases h3 x hx px with rfl|l1
   ·exact lx'
   ·rcases lx' with rfl|l2
    ·exact .inr l1
    ·exact .inr (nJ l1 l2)
theorem oZ (h1:lL nm fs d e a) (h2:lL nm fs d e b):a=b:=by
 cases a with
 | none=>
   cases b with
   |none=>rfl
   |some c=>have:=h1 c h2.1;rw [h2.2.1] at this;cases this
 | some c=>
   cases b with
   |none=>have:=h2 c h1.1;rw [h1.2.1] at this;cases this
   | some c'=>
     rcases h1.2.2 c' h2.1 h2.2.1 with rfl|l1
     ·rfl
     ·rcases h2.2.2 c h1.1 h1.2.1 with rfl|l2
      ·rfl
      ·exact (yZ l1 l2).elim
theorem Ad (x:Str) (L:List PyData) (d:PyData):tvs x (L++[d])=tvs x L++yu x d:=by
 unfold tvs
 rw [List.flatMap_append,List.flatMap_cons,List.flatMap_nil,List.append_nil]
theorem Fq (x:Str) (d:PyData):(yu x d).length≤2:=by
 unfold yu
 split
 ·split
  ·split
   ·split <;> simp
   ·simp
  ·simp
 ·simp
theorem pQ (x:Str):∀ L:List PyData,(tvs x L).length≤2*L.length
 |[]=>by simp [tvs]
 | d::r=>by
   have h1:=pQ x r
   have h2:=Fq x d
   unfold tvs at h1 ⊢
   rw [List.flatMap_cons,List.length_append,List.length_cons]
   omega
def Wh (L:List PyData):Prop:=∀ e∈L,∃ f r,e=.tuple (.str f::r)/\jw f r
def RP (K:Frag):Sp:=fun vs H Q _=>∃ (l:Addr) (x:Str) (lo hi:Int) (xs:List V) (L:List PyData),vs=[.ref l,.str x,.int lo,.int hi]/\bD K H l xs/\bF K H xs L/\Wh L/\L.length≤16/\lo≤hi/\∀ q ts H',nO L (x,lo,hi) ts->ts.length≤33->H' q=some (.lst (ts.map V.int))->az H H'->Q (.ref q) H'
abbrev WP:List Str:=["found","field","low","high","values","leaf"]
theorem J4:aN WP ["found","field","low","high"] (aA (top 47)):=by ext
theorem Pz (F:fK K "turns" "turns" (top 47) f fd) (T:Txt K mg) (hso:mg "sorted" = none) (TB:nM K mg aW aS):aJ P w K mg base bB 1 f fd ["found","field","low","high"] (RP K):=by
 refine F.ok J4 (by ext) fun cdv A outer s H vs Q E hr h=>?_
 obtain ⟨l,x,lo,hi,xs,L,rfl,hl,rp,lv,ll,lh,k⟩:=h
 refine ⟨_,(ak (aU (i:=4) J4.nd rfl (by first|exact Or.inl rfl|exact Or.inr rfl) (bL (aa (pv 2) aj)))
  (ak (dj PassesOwn.never rfl (dM (pv 0)) (aC (i:=5) J4.nd rfl (by first|exact Or.inl rfl|exact Or.inr rfl))
   (aq (aZ (PW.pt (jR (aG ir (a_ bz (pv 5) au (fun _ _=>rfl)) (bj (v:=.ref aS) rfl TB.ms rfl) rfl) (jk (aG bQ (a_ bz (pv 5) au (fun _ _=>rfl)) (pv 1) (aQ _)))))
    (ak (bU (gB PySem.F.plainAttrs_list PySem.F.slot_list_append PySem.F.type_list_append dJ (pv 4) (aa (a_ bz (pv 5) au (fun _ _=>rfl)) aj)))
    (aq (aZ (aG bQ (a_ bz (pv 5) au (fun _ _=>rfl)) aO (aQ _)) (aq (bU (gB PySem.F.plainAttrs_list PySem.F.slot_list_append PySem.F.type_list_append dJ (pv 4) (aa (aX c7 (a_ bz (pv 5) au (fun _ _=>rfl)) au) aj)))) aK))) aK)))
  (aq (aD (aP (pU rfl) (by rfl) hso xJ (aa (zG (g:=bh 0) (own:=["value"]) (js:=[2,3]) (N':=["value","low","high"]) (bw.of (osc:=aA (top 47)) (N:=WP) rfl rfl (by ext)) rfl (dM (pv 4)) (fun _ _ _ _ _=>(aC (i:=0) (show List.Nodup (["value","low","high"]:List Str) by ext) rfl (.inl rfl) (.inr rfl)))
   (fun _ _ _ _ _=>zm (n6 gJ gJ (pv 1) (pv 0) (pv 2))) (fun _ _ _ _ _=>pv 0)) aj)))))),?_⟩
 have xl:=rp.length
 refine ⟨_,rfl,(by ext),fun v hv=>?_⟩
 have s0:az H (upd H v (.lst [.int lo])):=az.new hv
 have e0:upd H v (.lst [.int lo]) v=some (.lst [.int lo]):=ao
 generalize upd H v (.lst [.int lo])=H0 at s0 e0 ⊢
 dsimp only [bh,List.set]
 refine ⟨_,rfl,l,rfl,⟨_,s0.seq hl⟩,ii (K:=K) (a:=l) (xs:=xs) (fun i σ' H'=>(∃ u,σ'=[some (.ref l),some (.str x),some (.int lo),some (.int hi),some (.ref v),u])/\H' v=some (.lst ((lo::tvs x (L.take i)).map V.int))/\az H H') ⟨⟨none,rfl⟩,e0,s0⟩ (fun i σ H' _ e=>e.2.2.seq hl) ?_ ?_⟩
 ·rintro i y σ' H1 hi' ⟨⟨u,rfl⟩,h1,s1⟩
  obtain ⟨d,hd,rd⟩:=rp.get' hi'
  have md:=List.mem_of_getElem? hd
  obtain ⟨f',r,rfl,lf⟩:=lv d md
  have rd1:=rd.same s1
  have tl:=pQ x (L.take i)
  have tk:(L.take i).length≤16:=by rw [List.length_take];omega
  have et:tvs x (L.take (i+1))=tvs x (L.take i)++yu x (.tuple (.str f'::r)):=by
   rw [List.take_add_one,hd]
   exact Ad _ _ _
  cases rd1 with
  |@tup a zs _ sq rs=>
  have keep:∀ {H2:Hp} {o:HO},az H H2->az H (upd H2 v o):=fun s2 b u e=>by rw [aH (aB e hv)];exact s2 _ _ e
  dsimp only [bh,List.set]
  cases lf with
  | all=>
    obtain ⟨x0,rfl⟩:∃ x0,zs=[x0]:=by
     cases rs with|cons r1 r2=>cases r2;exact ⟨_,rfl⟩
    cases rs with|cons r1 r2=>
    cases r1
    refine ⟨_,rfl,a,_,_,_,rfl,rfl,sq,aL (j:=0) rfl,"all",aS,dS,rfl,rfl,TB.ks,_,rfl,?_⟩
    rw [rH]
    refine cg (by ext) (cg rfl ⟨⟨_,rfl⟩,?_,s1⟩)
    rw [et,show yu x (.tuple [.str "all"])=[] from rfl,List.append_nil]
    exact h1
  | @is z hz=>
    obtain ⟨x0,x1,rfl⟩:∃ x0 x1,zs=[x0,x1]:=by
     cases rs with|cons r1 r2=>cases r2 with|cons r2 r3=>cases r3;exact ⟨_,_,rfl⟩
    cases rs with|cons r1 r2=>
    cases r1
    refine ⟨_,rfl,a,_,_,_,rfl,rfl,sq,aL (j:=0) rfl,"is",aS,dS,rfl,rfl,TB.ks,_,rfl,?_⟩
    rw [rH]
    refine cg (by ext) (cg rfl ⟨⟨_,rfl⟩,?_,s1⟩)
    rw [et,show yu x (.tuple [.str "is",.str z])=[] from rfl,List.append_nil]
    exact h1
  | @num _ z j hf hz hj=>
    obtain ⟨x0,x1,x2,rfl⟩:∃ x0 x1 x2,zs=[x0,x1,x2]:=by
     cases rs with|cons r1 r2=>cases r2 with|cons r2 r3=>cases r3 with|cons r3 r4=>cases r4;exact ⟨_,_,_,rfl⟩
    cases rs with|cons r1 r2=>
    cases r2 with|cons r2 r3=>
    cases r3 with|cons r3 r4=>
    cases r1
    cases r2
    cases r3
    have some':(iy dS f').isSome=true:=by rw [rH];rcases hf with rfl|rfl <;> decide +kernel
    refine ⟨_,rfl,a,_,_,_,rfl,rfl,sq,aL (j:=0) rfl,f',aS,dS,rfl,rfl,TB.ks,_,rfl,?_⟩
    refine cL some' ⟨_,rfl,a,_,_,_,rfl,rfl,sq,aL (j:=1) rfl,_,rfl,rfl,_,rfl,?_⟩
    have e1:yu x (.tuple [.str f',.str z,.int j])=if z=x then (if f' = "same" then [j,j+1] else [j]) else []:=by
     show (if f' = "less"∨f' = "same" then (if z=x then (if f' = "same" then [j,j+1] else [j]) else []) else [])=_
     rw [if_pos hf]
    rw [e1] at et
    refine gD (fun h=>?_) (fun h=>?_)
    ·have h':z=x:=by simpa using h
     rw [if_pos h'] at et
     refine ⟨_,rfl,.inl ⟨rfl,_,bD.of h1⟩,_,rfl,a,_,_,_,rfl,rfl,sq,aL (j:=2) rfl,v,_,_,rfl,rfl,h1,?_,?_⟩
     ·rw [List.length_map,List.length_cons]
      exact Nat.lt_of_le_of_lt (show (tvs x (L.take i)).length+1≤40 by omega) (by decide)
     have s2:az H (upd H1 v (.lst ((lo::tvs x (L.take i)).map V.int++[.int j]))):=keep s1
     have h2:upd H1 v (.lst ((lo::tvs x (L.take i)).map V.int++[.int j])) v=some (.lst ((lo::tvs x (L.take i)).map V.int++[.int j])):=ao
     have sq2:bI K (upd H1 v (.lst ((lo::tvs x (L.take i)).map V.int++[.int j]))) a [.str f',.str z,.int j]:=m7 sq h1
     generalize upd H1 v (.lst ((lo::tvs x (L.take i)).map V.int++[.int j]))=H2 at s2 h2 sq2 ⊢
     refine ⟨_,rfl,a,_,_,_,rfl,rfl,sq2,aL (j:=0) rfl,rfl,_,rfl,?_⟩
     rcases hf with rfl|rfl
     ·refine cg (by ext) ⟨⟨_,rfl⟩,?_,s2⟩
      rw [et,if_neg (by decide)]
      rw [h2]
      simp
     ·refine cL (by ext) ⟨_,rfl,.inl ⟨rfl,_,bD.of h2⟩,_,rfl,a,_,_,_,rfl,rfl,sq2,aL (j:=2) rfl,_,_,rfl,rfl,v,_,_,rfl,rfl,h2,?_,⟨_,rfl⟩,?_,keep s2⟩
      ·rw [List.length_append,List.length_map,List.length_cons]
       exact Nat.lt_of_le_of_lt (show (tvs x (L.take i)).length+1+1≤41 by omega) (by decide)
      ·rw [ao,et,if_pos rfl]
       simp
    ·have h':¬ z=x:=by simpa using h
     rw [if_neg h',List.append_nil] at et
     exact ⟨⟨_,rfl⟩,by rw [et];exact h1,s1⟩
 ·rintro σ' H1 ⟨⟨u,rfl⟩,h1,s1⟩
  rw [xl,List.take_length] at h1
  have tl:=pQ x L
  generalize ev:lo::tvs x L=vs at h1
  have vl:vs.length≤33:=by rw [← ev,List.length_cons];omega
  refine ⟨_,rfl,v,rfl,⟨_,bD.of h1⟩,fun acc hacc=>?_⟩
  have vacc:v≠acc:=aB h1 hacc
  refine qU (K:=K) (a:=v) (xs:=vs.map V.int) (fun i σ' H'=>(∃ u,σ'=[u,some (.int lo),some (.int hi)])/\H'=upd H1 acc (setG P w acc (dd ((vs.take i).filter fun z=>decide (lo≤z) && decide (z≤hi))))) ⟨⟨none,rfl⟩,rfl⟩ (fun i σ H' _ e=>by rw [e.2];exact bD.of (by rw [aH vacc];exact h1)) ?_ ?_
  ·rintro i y σ' H' hi' ⟨⟨u,rfl⟩,rfl⟩ N hN
   rw [List.getElem?_map] at hi'
   obtain ⟨z,hz,rfl⟩:=Option.map_eq_some_iff.mp hi'
   dsimp only [bh,List.set]
   refine jW.chain (jW.var rfl) (jW.var rfl) (jW.var rfl) yq.i0 yq.i0 _ ⟨_,rfl,?_⟩
   have ed:vs.take (i+1)=vs.take i++[z]:=by rw [List.take_add_one,hz];rfl
   refine gD (fun h=>?_) (fun h=>?_)
   ·refine ⟨_,rfl,_,z,ao,rfl,?_,hN _ _ ⟨⟨_,rfl⟩,?_⟩⟩
    ·have a1:=yC ((vs.take i).filter fun z=>decide (lo≤z) && decide (z≤hi))
     have a2:=List.length_filter_le (fun z=>decide (lo≤z) && decide (z≤hi)) (vs.take i)
     have a3:(vs.take i).length≤33:=by rw [List.length_take];omega
     exact Nat.lt_of_le_of_lt (show _≤34 by omega) (by decide)
    ·rw [BX,ed,List.filter_append,List.filter_cons_of_pos (by exact h),List.filter_nil,CZ]
     rfl
   ·refine hN _ _ ⟨⟨_,rfl⟩,?_⟩
    rw [ed,List.filter_append,List.filter_cons_of_neg (by exact h),List.filter_nil,List.append_nil]
  ·rintro σ' H' ⟨_,rfl⟩
   rw [List.length_map,List.take_length]
   have a1:=yC (vs.filter fun z=>decide (lo≤z) && decide (z≤hi))
   have a2:=List.length_filter_le (fun z=>decide (lo≤z) && decide (z≤hi)) vs
   refine ⟨acc,_,rfl,ao,by omega,fun ms q hp hs hq=>?_⟩
   have pl:=hp.length_eq
   refine k q ms _ ⟨?_,fun z=>?_⟩ (by omega) ao ?_
   ·have nd:ms.Nodup:=hp.nodup_iff.mpr (Aq _)
    exact (hs.and nd).imp fun {a b} h=>by have:=h.1;have:=h.2;omega
   ·rw [hp.mem_iff,La,List.mem_filter,← ev,List.mem_cons]
    simp
   ·exact (s1.trans (az.new hacc)).trans (az.new hq)
def gW (H:Hp) (x:V) (r:List Int):Prop:=∃ p,x=.ref p/\H p=some (.tup (r.map V.int))
theorem gW.tk (h:gW H x r) (k:TK H H'):gW H' x r:=let ⟨p,e,z⟩:=h;⟨p,e,k _ _ z⟩
theorem eZ (k:TK H H'):∀ {xs:List V} {rs:List (List Int)},Paired (gW H) xs rs->Paired (gW H') xs rs
 |_,_,.nil=>.nil
 |_,_,.cons a t=>.cons (a.tk k) (eZ k t)
theorem _root_.L2.az.tkT (s:az H H'):TK H H':=fun b xs e=>s _ _ e
theorem Paired.snoc2 {α β:Type} {R:α->β->Prop} {x:α} {y:β} (h:R x y):∀ {xs:List α} {ys:List β},Paired R xs ys->Paired R (xs++[x]) (ys++[y])
 |_,_,.nil=>.cons h .nil
 |_,_,.cons a t=>.cons a (Paired.snoc2 h t)
theorem wJ {K:Frag} {a b:Addr} {xs:List V} {rows:List (List Int)} {ts:List Int} {te:TE} {H0:Hp} {F:List V->Hp->Prop} {σ0:St} (e0:∃ u v,σ0=[u,v,some (.ref b)]) (hq:bD K H0 a xs) (hb:bD K H0 b (ts.map V.int)) (hp:Paired (gW H0) xs rows) (hl:rows.length*ts.length<sizeLine)
 (hte:∀ x r v H (N:V->Hp->Prop),gW H x r->r∈rows->(∀ y H',az H H'->gW H' y (r++[v])->N y H')->te [some x,some (.int v),some (.ref b)] H N) (hF:∀ ys H',az H0 H'->Paired (gW H') ys (ext rows ts)->F ys H') :
 ∃ W:Nat->Nat->List V->St->Hp->Prop,(∃ m,W 0 m [] σ0 H0)/\qz (G9 K a) (bh 0) mH (vB K (rC 2)) (bh 1) mH te F W:=by
 have xl:=Paired.length hp
 have elen:∀ i,i≤rows.length->(ext (rows.take i) ts).length=i*ts.length:=fun i hi=>by rw [kY,List.length_take,Nat.min_eq_left hi]
 refine ⟨fun i m ys σ H=>m=xs.length-i/\i≤xs.length/\(∃ u v,σ=[u,v,some (.ref b)])/\az H0 H/\Paired (gW H) ys (ext (rows.take i) ts),⟨xs.length,by simp,Nat.zero_le _,e0,az.refl _,.nil⟩,?_⟩
 rintro i m ys σ H ⟨rfl,hi,⟨u,v,rfl⟩,s1,py⟩
 have q:=s1.seq hq
 by_cases hlt:i<xs.length
 ·refine .inr ⟨⟨xs,xs[i],q,by simp [hlt]⟩,fun x H' y=>?_⟩
  obtain ⟨e,y⟩:=y
  subst e
  have hx:=y xs q
  obtain ⟨r,hr,rx⟩:=cH hp hx
  have mr:=List.mem_of_getElem? hr
  have er:rows.take (i+1)=rows.take i++[r]:=by rw [List.take_add_one,hr];rfl
  have ee:ext (rows.take (i+1)) ts=ext (rows.take i) ts++ts.map fun v=>r++[v]:=by
   rw [er]
   unfold ext
   rw [List.flatMap_append,List.flatMap_cons,List.flatMap_nil,List.append_nil]
  dsimp only [bh,List.set,mH]
  rw [if_pos rfl]
  refine ⟨_,rfl,b,rfl,⟨_,s1.seq hb⟩,?_⟩
  refine ⟨fun j m2 ys σ H=>m2=ts.length-j/\j≤ts.length/\(∃ v,σ=[some x,v,some (.ref b)])/\az H0 H/\Paired (gW H) ys (ext (rows.take i) ts++(ts.take j).map fun v=>r++[v]),⟨ts.length,by simp,Nat.zero_le _,⟨_,rfl⟩,s1,by rw [List.take_zero,List.map_nil,List.append_nil];exact py⟩,?_⟩
  rintro j m2 ys2 σ2 H2 ⟨rfl,hj,⟨v2,rfl⟩,s2,py2⟩
  have q2:=s2.seq hb
  by_cases hlt2:j<ts.length
  ·have yl:=Paired.length py2
   rw [List.length_append,elen i (by omega),List.length_map,List.length_take] at yl
   have bd:i*ts.length+ts.length≤rows.length*ts.length:=by
    have:=Nat.mul_le_mul_right ts.length (show i+1≤rows.length by omega)
    rw [Nat.succ_mul] at this
    exact this
   refine .inr ⟨⟨ts.map V.int,.int ts[j],q2,by simp [hlt2]⟩,by omega,fun z H3 y2=>?_⟩
   obtain ⟨e,y2⟩:=y2
   subst e
   have hz:=y2 _ q2
   rw [List.getElem?_map] at hz
   obtain ⟨v,hv,rfl⟩:=Option.map_eq_some_iff.mp hz
   dsimp only [bh,List.set,mH]
   rw [if_pos rfl]
   refine hte x r v _ _ (rx.tk s2.tkT) mr fun y H4 s4 ry=>⟨ts.length-(j+1),by omega,rfl,hlt2,⟨_,rfl⟩,s2.trans s4,?_⟩
   have et:(ts.take (j+1)).map (fun v=>r++[v])=(ts.take j).map (fun v=>r++[v])++[r++[v]]:=by rw [List.take_add_one,hv,List.map_append];rfl
   rw [et,← List.append_assoc]
   exact Paired.snoc2 ry (eZ s4.tkT py2)
  ·have e:j=ts.length:=by omega
   subst e
   refine .inl ⟨⟨_,q2,by simp⟩,xs.length-(i+1),by omega,rfl,hlt,⟨_,_,rfl⟩,s2,?_⟩
   rw [List.take_length] at py2
   rw [ee]
   exact py2
 ·have e:i=xs.length:=by omega
  subst e
  rw [xl,List.take_length] at py
  exact .inl ⟨⟨xs,q,Nat.le_refl _⟩,hF _ _ s1 py⟩
def RD (K:Frag) (C:Addr):Sp:=fun vs H Q _=>∃ (l o a:Addr) (nm:Str) (fs:List gr) (xs:List V) (L:List PyData),vs=[.ref l,.ref o]/\bD K H l xs/\bF K H xs L/\Wh L/\L.length≤16/\dw C H o nm a fs/\fs.length≤4/\(∀ f∈fs,nC f)/\∀ q ys tss H',Paired (nO L) fs tss->H' q=some (.lst ys)->Paired (gW H') ys (gV tss)->az H H'->Q (.ref q) H'
abbrev WQ:List Str:=["found","kind","rows","name","low","high","steps"]
theorem ug:aN WQ ["found","kind"] (aA (top 46)):=by ext
theorem Qf {mg:Str->Option Value} {f aW aS C fT:Addr} {fd fdT:FuncData} (F:fK K "corners" "corners" (top 46) f fd) (T:Txt K mg) (hso:mg "sorted" = none) (TB:nM K mg aW aS) (KC:KCls K mg C) (DT:cj K mg "turns" (top 47) ["found","field","low","high"] fT fdT):aJ P w K mg base bB 2 f fd ["found","kind"] (RD K C):=by
 have GT:aJ P w K mg base bB 1 fT fdT ["found","field","low","high"] (RP K):=Pz DT.F T hso TB
 refine F.ok ug (by ext) fun cdv A outer s H vs Q E hr h=>?_
 obtain ⟨l,o,a,nm,fs,xs,L,rfl,hl,rp,lv,ll,ka,fl,fo,k⟩:=h
 refine ⟨_,(ak (aU (i:=2) ug.nd rfl (by first|exact Or.inl rfl|exact Or.inr rfl) (bL (aa (bN aj) aj)))
  (ak (dj PassesOwn.never rfl (iK (nT (pv 1) rfl)) (cQ rfl (aM (aC (i:=3) ug.nd rfl (by first|exact Or.inl rfl|exact Or.inr rfl)) (aM (aC (i:=4) ug.nd rfl (by first|exact Or.inl rfl|exact Or.inr rfl)) (aM (aC (i:=5) ug.nd rfl (by first|exact Or.inl rfl|exact Or.inr rfl)) cA))))
   (ak (aU (i:=6) ug.nd rfl (by first|exact Or.inl rfl|exact Or.inr rfl) (b_ DT GT hr (aa (pv 0) (aa (pv 3) (aa (pv 4) (aa (pv 5) aj))))))
   (aq (su (i:=2) (g:=bh 0) (g2:=bh 1) (tt:=mH) (tt2:=mH) (wi2:=vB K (rC 2)) (own:=["row","value"]) (js:=[6]) (N':=["row","value","steps"]) (bw.of (osc:=aA (top 46)) (N:=WQ) rfl rfl (by ext)) rfl ug.nd rfl rfl (dM (pv 2)) (fun _ _ _ _ _=>(aC (i:=0) (show List.Nodup (["row","value","steps"]:List Str) by ext) rfl (.inl rfl) (.inr rfl))) (fun _ _ _ _ _=>cI) (fun _ _ _ _ _=>zg rfl (pv 2)) (fun _ _=>rfl) (fun _ _ _ _ _=>(aC (i:=1) (show List.Nodup (["row","value","steps"]:List Str) by ext) rfl (.inl rfl) (.inr rfl))) (fun _ _ _ _ _=>cI)
    (fun _ _ _ _ _=>(aX (r:=rB K) pY (pv 0) (bN (aa (pv 1) aj))))))))
  (aq (aD (pv 2))))),?_⟩
 obtain ⟨⟨dx,ho⟩,ws,ha,pf⟩:=ka
 have wl:=Paired.length pf
 refine ⟨(by ext),fun p0 hp0=>⟨(by ext),fun q0 hq0=>?_⟩⟩
 have s0:=(az.new (o:=.tup []) hp0).trans (az.new (o:=.lst [.ref p0]) hq0)
 have e0:upd (upd H p0 (.tup [])) q0 (.lst [.ref p0]) q0=some (.lst [.ref p0]):=ao
 have e1:upd (upd H p0 (.tup [])) q0 (.lst [.ref p0]) p0=some (.tup []):=az.new hq0 _ _ ao
 generalize upd (upd H p0 (.tup [])) q0 (.lst [.ref p0])=H0 at s0 e0 e1 ⊢
 dsimp only [bh,List.set]
 refine ⟨_,rfl,o,C,dx,_,_,rfl,s0 _ _ ho,KC.cl,KC.nF,jj nm a,a,rfl,⟨_,bI.of (s0 _ _ ha)⟩,?_⟩
 refine m6 (K:=K) (a:=a) (xs:=ws) (fun i σ' H'=>∃ q ys tss u3 u4 u5 u6,σ'=[some (.ref l),some (.ref o),some (.ref q),u3,u4,u5,u6]/\H' q=some (.lst ys)/\Paired (gW H') ys (gV tss)/\Paired (nO L) (fs.take i) tss/\(gV tss).length≤33 ^ i/\az H H') ⟨q0,_,[],_,_,_,_,rfl,e0,.cons ⟨p0,rfl,e1⟩ .nil,.nil,by simp [gV],s0⟩ (fun i σ H' _ ⟨_,_,_,_,_,_,_,_,_,_,_,_,e⟩=>bI.of (e _ _ ha)) ?_ ?_
 ·rintro i x σ' H1 hi ⟨q,ys,tss,u3,u4,u5,u6,rfl,hq,py,pt,cl,s1⟩
  obtain ⟨f',hf,b',rfl,hb⟩:=cH pf hi
  have mf:=List.mem_of_getElem? hf
  have fk:=fo f' mf
  have il:i<4:=by
   have:=(List.getElem?_eq_some_iff.mp hf).1
   omega
  refine ⟨b',_,rfl,bI.of (s1 _ _ hb),rfl,_,_,rfl,_,_,rfl,_,_,rfl,rfl,?_⟩
  dsimp only [bh,List.set]
  refine ⟨_,rfl,_,rfl,_,rfl,_,rfl,l,f'.1,f'.2.1,f'.2.2,xs,L,rfl,s1.seq hl,rp.same s1,lv,ll,fk.le,fun b ts H2 st tl hb2 s2=>?_⟩
  dsimp only [bh,List.set]
  refine ⟨_,rfl,q,rfl,⟨_,bD.of (s2 _ _ hq)⟩,?_⟩
  have cb:(gV tss).length*ts.length≤33 ^ (i+1):=by
   rw [Nat.pow_succ]
   exact Nat.mul_le_mul cl tl
  have c4:33 ^ (i+1)≤33 ^ 4:=Nat.pow_le_pow_right (by decide) (by omega)
  have c5:33 ^ 4<sizeLine:=by decide
  refine wJ (b:=b) (ts:=ts) (rows:=gV tss) ⟨_,_,rfl⟩ (bD.of (s2 _ _ hq)) (bD.of hb2) (eZ s2.tkT py) (by omega) ?_ ?_
  ·rintro y r v H3 N ⟨p,rfl,hp⟩ mr hN
   have rlen:=Paired.length (gO.mp mr)
   have tsl:=Paired.length pt
   rw [List.length_take] at tsl
   refine ⟨_,rfl,_,rfl,(by ext),fun p2 hp2=>?_⟩
   have t1:=az.new (o:=.tup [.int v]) hp2
   refine ⟨p,p2,_,_,rfl,rfl,bI.of (t1 _ _ hp),bI.of ao,?_,fun e=>?_,fun e=>?_,fun p3 hp3=>?_⟩
   ·rw [List.length_map]
    exact Nat.le_trans (show r.length+1≤10 by omega) (by decide)
   ·have:r=[]:=by simpa using e
    subst this
    exact hN _ _ t1 ⟨p2,rfl,ao⟩
   ·simp at e
   ·refine hN _ _ (t1.trans (az.new hp3)) ⟨p3,rfl,?_⟩
    rw [ao,List.map_append]
    rfl
  ·intro ys' H3 s3 py3
   have yl:=Paired.length py3
   rw [kY] at yl
   refine ⟨by omega,fun q3 hq3=>?_⟩
   have s4:=az.new (o:=.lst ys') hq3
   refine ⟨q3,ys',tss++[ts],_,_,_,_,rfl,ao,?_,?_,?_,((s1.trans s2).trans s3).trans s4⟩
   ·rw [nP]
    exact eZ s4.tkT py3
   ·rw [List.take_add_one,hf]
    exact Paired.snoc2 st pt
   ·rw [nP,kY]
    exact cb
 ·rintro σ' H1 ⟨q,ys,tss,u3,u4,u5,u6,rfl,hq,py,pt,cl,s1⟩
  rw [wl,List.take_length] at pt
  exact ⟨_,rfl,k q ys tss H1 pt hq py s1⟩
def JF (K:Frag) (C cT:Addr):Sp:=fun vs H Q E=>∃ (x y:V) (o a:Addr) (d e:PyData) (nm:Str) (fs:List gr),vs=[x,y,.ref o]/\Rep K H x d/\Rep K H y e/\TD d/\TD e/\dw C H o nm a fs/\fs.length≤4/\(∀ f∈fs,nC f)/\
 (cJ d=true->cJ e=true->(∀ H',lL nm fs d e none->az H H'->Q .non H')/\∀ c p H',lL nm fs d e (some c)->H' p=some (.tup (c.map V.int))->az H H'->Q (.ref p) H')/\
 (cJ d=false∨cJ e=false->False)
abbrev XD:List Str:=["one","other","kind","values"]
theorem Og:aN XD ["one","other","kind"] (aA (top 45)):=by ext
theorem zY (td:TD d) (sh:bA d=true) (de:aY d≤n):Wh (gb d):=j4 td sh de
theorem qG:∀ {zs:List Int} {fs:List gr},vJ zs fs->zs.length=fs.length
 |_,_,.nil=>rfl
 |_,_,.cons _ t=>by rw [List.length_cons,List.length_cons,qG t]
theorem N8 (F:fK K "parted" "parted" (top 45) f fd) (T:Txt K mg) (hso:mg "sorted" = none) (TB:nM K mg aW aS) (KC:KCls K mg C)
 (DN:cj K mg "need_test" (top 32) ["test"] fN fdN) (GN:aJ P w K mg base bB 11 fN fdN ["test"] (z9 K cT)) (DL:cj K mg "leaves_within" (top 33) ["test"] fL fdL) (DC:cj K mg "corners" (top 46) ["found","kind"] fC fdC) (DT:cj K mg "turns" (top 47) ["found","field","low","high"] fT fdT)
 (DP:cj K mg "passes" (top 43) ["test","kind","values"] fP fdP) (GP:aJ P w K mg base bB 7 fP fdP ["test","kind","values"] (EY K C 5)):aJ P w K mg base bB 12 f fd ["one","other","kind"] (JF K C cT):=by
 have GL:aJ P w K mg base bB 5 fL fdL ["test"] (Jq K 5):=Q0 DL TB 5
 have GC:aJ P w K mg base bB 2 fC fdC ["found","kind"] (RD K C):=Qf DC.F T hso TB KC DT
 refine F.ok Og (by ext) fun cdv A outer s H vs Q E hr h=>?_
 obtain ⟨x,y,o,a,d,e,nm,fs,rfl,rx,ry,td,te,ka,fl,fo,k,kx⟩:=h
 have hr2:bH 2 _:=hr.mono (by decide)
 have hr5:bH 5 _:=hr.mono (by decide)
 have hr7:bH 7 _:=hr.mono (by decide)
 refine ⟨_,(ak (bU (b_ DN GN hr (aa (pv 0) aj)))
  (ak (bU (b_ DN GN hr (aa (pv 1) aj)))
  (ak (dj PassesOwn.never rfl (dM (b_ DC GC hr2 (aa (aX zB (b_ DL GL hr5 (aa (pv 0) aj)) (b_ DL GL hr5 (aa (pv 1) aj))) (aa (pv 2) aj)))) (aC (i:=3) Og.nd rfl (by first|exact Or.inl rfl|exact Or.inr rfl))
   (aq (aZ (aG j8 (b_ DP GP hr7 (aa (pv 0) (aa (pv 2) (aa (pv 3) aj)))) (b_ DP GP hr7 (aa (pv 1) (aa (pv 2) (aa (pv 3) aj)))) (aQ _)) (aq (aD (pv 3))) aK)))
  (aq (aD lG))))),?_⟩
 refine ⟨_,rfl,x,d,rfl,rx,td,fun h1 H1 s1=>?_,fun h1=>kx (.inl h1)⟩
 refine ⟨_,rfl,y,e,rfl,ry.same s1,te,fun h2 H2 s2=>?_,fun h2=>kx (.inr h2)⟩
 obtain ⟨k1,k2⟩:=k h1 h2
 have t1:ou d:=⟨td,h1⟩
 have t2:ou e:=⟨te,h2⟩
 have S2:=s1.trans s2
 clear s1 s2
 refine ⟨_,rfl,x,d,rfl,rx.same S2,td,t1.sh,t1.de,by decide,fun l1 xs1 H3 s3 n1 hl1 rp1=>?_⟩
 refine ⟨_,rfl,y,e,rfl,ry.same (S2.trans s3),te,t2.sh,t2.de,by decide,fun l2 xs2 H4 s4 n2 hl2 rp2=>?_⟩
 have f1:=rp1.length
 have f2:=rp2.length
 have g1:=t1.few
 have g2:=t2.few
 refine ⟨l1,l2,xs1,xs2,rfl,rfl,s4 _ _ hl1,hl2,Nat.le_trans (show xs1.length+xs2.length≤16 by omega) (by decide),fun l3 hl3=>⟨_,rfl,?_⟩⟩
 have s5:=az.new (o:=.lst (xs1++xs2)) hl3
 have S5:=((S2.trans s3).trans s4).trans s5
 refine ⟨l3,o,a,nm,fs,_,gb d++gb e,rfl,bD.of ao,gC (rp1.same (s4.trans s5)) (rp2.same s5),fun z hz=>?_,by rw [List.length_append];omega,ka.same S5,fl,fo,fun q ys tss H6 st hq py s6=>?_⟩
 ·rcases List.mem_append.mp hz with hz|hz
  ·exact zY td t1.sh t1.de z hz
  ·exact zY te t2.sh t2.de z hz
 have S6:=S5.trans s6
 have lst:=z8 (nm:=nm) t1 t2 st
 have yl:=Paired.length py
 obtain ⟨fd',rd',rfl⟩:=t1.form
 obtain ⟨fe',re',rfl⟩:=t2.form
 have rx6:=rx.same S6
 have ry6:=ry.same S6
 cases rx6 with
 |@tup qx xsx _ sqx rsx=>
 cases ry6 with
 |@tup qy xsy _ sqy rsy=>
 refine ⟨q,rfl,⟨_,bD.of hq⟩,ii (K:=K) (a:=q) (xs:=ys) (fun i σ' H'=>(∃ u,σ'=[some (.ref qx),some (.ref qy),some (.ref o),u])/\az H6 H'/\∀ c∈(gV tss).take i,dR nm fs (.tuple (.str fd'::rd')) (.tuple (.str fe'::re')) c=false) ⟨⟨none,rfl⟩,az.refl _,by simp⟩ (fun i σ H' _ z=>bD.of (z.2.1 _ _ hq)) ?_ ?_⟩
 ·rintro i z σ' H7 hi ⟨⟨u,rfl⟩,s7,no⟩
  obtain ⟨c,hc,p,rfl,hp⟩:=cH py hi
  have mc:=List.mem_of_getElem? hc
  have bc:=tH st (gO.mp mc)
  have ka7:=ka.same (S6.trans s7)
  dsimp only [bh,List.set]
  refine ⟨_,rfl,_,rfl,_,rfl,qx,o,a,p,fd',nm,rd',fs,c,rfl,⟨.tup (s7.tup sqx) (rsx.same s7),td,t1.sh,t1.de,ka7,fl,s7 _ _ hp,qG bc⟩,fun H8 s8=>?_⟩
  have s78:=s7.trans s8
  refine ⟨_,rfl,_,rfl,_,rfl,qy,o,a,p,fe',nm,re',fs,c,rfl,⟨.tup (s78.tup sqy) (rsy.same s78),te,t2.sh,t2.de,ka.same (S6.trans s78),fl,s78 _ _ hp,qG bc⟩,fun H9 s9=>?_⟩
  have s79:=s78.trans s9
  refine ⟨rfl,_,rfl,gD (fun h=>?_) (fun h=>?_)⟩
  ·have pc:dR nm fs (.tuple (.str fd'::rd')) (.tuple (.str fe'::re')) c=true:=by
    unfold dR cF
    simpa using h
   have ef:(gV tss).find? (dR nm fs (.tuple (.str fd'::rd')) (.tuple (.str fe'::re')))=some c:=by
    refine List.find?_eq_some_iff_append.mpr ⟨pc,(gV tss).take i,(gV tss).drop (i+1),?_,fun b hb=>by rw [no b hb];rfl⟩
    have il:=(List.getElem?_eq_some_iff.mp hc)
    obtain ⟨il,ec⟩:=il
    rw [← ec]
    simp
   rw [ef] at lst
   exact ⟨_,rfl,k2 c p H9 lst (s79 _ _ hp) (S6.trans s79)⟩
  ·refine ⟨⟨_,rfl⟩,s79,fun c' hc'=>?_⟩
   rw [List.take_add_one,hc] at hc'
   rcases List.mem_append.mp hc' with z|z
   ·exact no _ z
   ·obtain rfl:c'=c:=by simpa using z
    unfold dR cF
    simpa using h
 ·rintro σ' H7 ⟨⟨u,rfl⟩,s7,no⟩
  rw [yl,List.take_length] at no
  have ef:(gV tss).find? (dR nm fs (.tuple (.str fd'::rd')) (.tuple (.str fe'::re')))=none:=List.find?_eq_none.mpr fun c hc=>by rw [no c hc];simp
  rw [ef] at lst
  exact k1 H7 lst (S6.trans s7)
structure Dv (f:gr):Prop where
 nm:Nm f.1
 lo:-2≤f.2.1
 lt:f.2.1≤10
 le:f.2.1≤f.2.2
 hi:f.2.2≤f.2.1+8
theorem Dv.ok (h:Dv f):nC f:=⟨h.nm,by have:=h.lo;omega,h.le,by have:=h.lt;have:=h.hi;omega⟩
def Nq:Sp:=fun vs H Q _=>∃ (p dc:Addr),vs=[.ref p]/\Dr H p dc/\∀ (a:Addr) (xs:List V) (fs:List gr) (H':Hp),H' a=some (.tup xs)->Paired (iV H') xs fs->fs.length≤3->(∀ f∈fs,Dv f)->(fs.map (·.1)).Nodup->Dr H' p dc->cZ p H H'->Q (.ref a) H'
abbrev Xe:List Str:=["_law_d","_law_names","_law_found","_law_title","_law_low"]
theorem zJ:aN Xe ["_law_d"] (aA (top 78)):=by ext
theorem R8 (F:fK K "_law_small_fields" "_law_small_fields" (top 78) f fd) (T:Txt K mg) (DP:cj K mg "_law_pick" (top 67) ["_law_d","_law_many"] fP fdP) (DO:cj K mg "_law_of" (top 68) ["_law_d","_law_things"] fO fdO)
 (DW:cj K mg "_law_word" (top 70) ["_law_d"] fW fdW) (DWs:cj K mg "_law_words" (top 71) ["_law_d","_law_many"] fWs fdWs):aJ P w K mg base bB 5 f fd ["_law_d"] Nq:=by
 have GP:aJ P w K mg base bB 1 fP fdP ["_law_d","_law_many"] iG:=gM DP.F T
 have GO:aJ P w K mg base bB 2 fO fdO ["_law_d","_law_things"] (xW K):=qR DO.F T DP
 have GWs:aJ P w K mg base bB 4 fWs fdWs ["_law_d","_law_many"] (vA K):=yN DWs.F T DP DO DW
 refine F.ok zJ (by ext) fun cdv A outer s H vs Q E hr h=>?_
 obtain ⟨p,dc,rfl,D,k⟩:=h
 have hr1:bH 1 _:=hr.mono (by decide)
 have hr2:bH 2 _:=hr.mono (by decide)
 refine ⟨_,(ak
 (aU (i:=1) zJ.nd rfl (.inl rfl) (b_ DWs GWs hr (aa (pv 0) (aa (b_ DP GP hr1 (aa (pv 0) (aa au aj))) aj))))
 (ak
 (aU (i:=2) zJ.nd rfl (.inl rfl) (bL aj))
 (ak
 (dj PassesOwn.never rfl (dM (pv 1)) (aC (i:=3) zJ.nd rfl (.inl rfl)) (ak
 (aU (i:=4) zJ.nd rfl (.inl rfl) (b_ DO GO hr2 (aa (pv 0) (aa (bL (aa au (aa (pF lJ au) (aa au (aa au aj))))) aj))))
 (aq
 (bU (gB PySem.F.plainAttrs_list PySem.F.slot_list_append PySem.F.type_list_append dJ (pv 2) (aa (bN (aa (pv 3) (aa (pv 4) (aa (aX c7 (pv 4) (b_ DO GO hr2 (aa (pv 0) (aa (bL (aa au (aa au (aa au (aa au aj))))) aj)))) aj)))) aj))))))
 (aq
 (aD (eG gU (by rfl) T.tuple iw (aa (pv 2) aj))))))),?_⟩
 refine ⟨_,rfl,_,rfl,p,dc,_,rfl,D,by decide,by decide,fun m H00 m0 m1 D00 t00=>?_⟩
 refine ⟨p,dc,m,rfl,D00,m0,by omega,fun q ys H1 e1 hq hl hy nd D1 t1'=>?_⟩
 have t1:=t00.trans t1'
 refine ⟨(by ext),fun q2 h2=>?_⟩
 have D1':=D1.new (o:=.lst []) h2
 have e1':(upd H1 q2 (.lst [])) q=some (.lst (ys.map V.str)):=(az.new h2) _ _ e1
 have nq:q2≠q:=(aB e1 h2).symm
 have hq2:H q2=none:=by
  cases e:H q2 with
  |none=>rfl
  |some o=>rw [t1 q2 o e (D1.neN h2).symm] at h2;cases h2
 have nq2c:q2≠dc:=by
  obtain ⟨xs,e⟩:=D1.cell
  exact (aB e h2).symm
 refine ⟨_,rfl,q,rfl,⟨_,bD.of e1'⟩,ii (K:=K) (a:=q) (xs:=ys.map V.str) (fun i σ H2=>∃ (xs:List V) (fs:List gr) (a b:Option V),σ=[some (.ref p),some (.ref q),some (.ref q2),a,b]/\H2 q=some (.lst (ys.map V.str))/\H2 q2=some (.lst xs)/\Paired (iV H2) xs fs/\fs.map (·.1)=ys.take i/\(∀ f∈fs,Dv f)/\Dr H2 p dc/\cZ p H H2)
  ⟨[],[],none,none,rfl,e1',ao,.nil,by simp,(fun _ h=>by cases h),D1',t1.trans (cZ.new h2)⟩ (fun i σ H2 _ ⟨_,_,_,_,_,e,_⟩=>bD.of e) ?_ ?_⟩
 ·rintro i y σ H2 hi ⟨xs,fs,a,b,rfl,g1,g2,pf,hm,hf,D2,t2⟩
  rw [List.getElem?_map] at hi
  obtain ⟨n,hn,rfl⟩:=Option.map_eq_some_iff.mp hi
  have hil:i<ys.length:=(List.getElem?_eq_some_iff.mp hn).1
  have np:∀ {b:Addr} {ws:List V} {H':Hp},Dr H' p dc->H' b=some (.lst ws)->b≠p:=fun d e=>d.ne e (by intro kvs z;cases z)
  refine ⟨_,rfl,_,rfl,(by ext),fun q3 h3=>?_⟩
  refine ⟨p,dc,q3,_,rfl,D2.new h3,bD.of ao,by simp,by simp,fun x H5 hx D5 t5=>?_⟩
  obtain ⟨lo,rfl,lo0,lo1⟩:∃ z:Int,x=.int z/\-2≤z/\z≤10:=by
   simp only [List.mem_cons,List.not_mem_nil,or_false] at hx
   rcases hx with rfl|rfl|rfl|rfl
   all_goals exact ⟨_,rfl,by decide,by decide⟩
  have t25:cZ p H2 H5:=(cZ.new h3).trans t5
  have g2a:H5 q2=some (.lst xs):=t25 q2 _ g2 (np D2 g2)
  refine ⟨_,rfl,.inl ⟨rfl,_,bD.of g2a⟩,_,rfl,_,rfl,_,rfl,_,rfl,(by ext),fun q5 h5=>?_⟩
  refine ⟨p,dc,q5,_,rfl,D5.new h5,bD.of ao,by simp,by simp,fun x H6 hx D6 t6=>?_⟩
  obtain ⟨z,rfl,z0,z1⟩:∃ z:Int,x=.int z/\0≤z/\z≤8:=by
   simp only [List.mem_cons,List.not_mem_nil,or_false] at hx
   rcases hx with rfl|rfl|rfl|rfl
   all_goals exact ⟨_,rfl,by decide,by decide⟩
  have t26:cZ p H2 H6:=t25.trans ((cZ.new h5).trans t6)
  have g1':H6 q=some (.lst (ys.map V.str)):=t26 q _ g1 (np D2 g1)
  have g2':H6 q2=some (.lst xs):=t26 q2 _ g2 (np D2 g2)
  have k5:TK H2 H6:=TK.but D2 t26
  refine ⟨_,_,rfl,rfl,(by ext),fun q4 h4=>?_⟩
  have g2'':∀ o,(upd H6 q4 o) q2=some (.lst xs):=fun o=>(az.new h4) _ _ g2'
  have hlen:fs.length=i:=by
   have:=congrArg List.length hm
   rw [List.length_map,List.length_take] at this
   omega
  have pl:=Paired.length pf
  refine ⟨q2,xs,_,rfl,rfl,g2'' _,eX (by omega),?_⟩
  refine ⟨xs++[.ref q4],fs++[(n,lo,lo+z)],_,_,rfl,?_,ao,?_,?_,?_,?_,?_⟩
  ·rw [aH nq.symm];exact (az.new h4) _ _ g1'
  ·refine Paired.snoc2 ⟨q4,rfl,?_⟩ (gf pf (k5.trans ((TK.new h4).trans (TK.lst (g2'' _)))))
   exact (TK.lst (g2'' _)) _ _ ao
  ·rw [List.map_append,hm,List.take_add_one,hn];rfl
  ·intro f hf'
   rcases List.mem_append.mp hf' with hf'|hf'
   ·exact hf f hf'
   ·obtain rfl:f=(n,lo,lo+z):=by simpa using hf'
    exact ⟨hy n (List.mem_of_getElem? hn),lo0,lo1,by dsimp only;omega,by dsimp only;omega⟩
  ·exact (D6.new h4).put (np (D6.new (o:=.tup [.str n,.int lo,.int (lo+z)]) h4) (g2'' _)) nq2c
  ·intro b o e hb
   rw [aH (aB e hq2)]
   exact (az.new h4) _ _ ((t2.trans t26) b o e hb)
 ·rintro σ H2 ⟨xs,fs,a,b,rfl,g1,g2,pf,hm,hf,D2,t2⟩
  rw [List.length_map,List.take_length] at hm
  refine ⟨_,rfl,q2,xs,rfl,.inl ⟨bD.of g2,fun l hn=>?_⟩⟩
  refine k l xs fs _ ao (gf pf (TK.new hn)) ?_ hf (by rw [hm];exact nd) (D2.new hn) (t2.trans (cZ.new hn))
  rw [← List.length_map (f:=(·.1)),hm];omega
def bW (f:gr):List Int:=(List.range (f.2.2+1-f.2.1).toNat).map fun i:Nat=>f.2.1+i
theorem rM:v∈bW f↔f.2.1≤v/\v≤f.2.2:=by
 unfold bW
 rw [List.mem_map]
 refine ⟨fun ⟨i,hi,e⟩=>?_,fun h=>⟨(v-f.2.1).toNat,List.mem_range.mpr (by omega),by omega⟩⟩
 have:=List.mem_range.mp hi
 omega
theorem Eh (f:gr):(bW f).Pairwise (·<·):=by
 unfold bW
 rw [List.pairwise_map]
 exact List.Pairwise.imp (fun h=>by omega) List.pairwise_lt_range
theorem nA (h:Dv f):(bW f).length≤9:=by
 unfold bW
 rw [List.length_map,List.length_range]
 have:=h.hi
 omega
theorem jY:∀ {fs:List gr} {zs:List Int},Paired (fun (v:Int) (ts:List Int)=>v∈ts) zs (fs.map bW)↔vJ zs fs
 | [],zs=>by
   constructor
   ·intro h;cases h;exact .nil
   ·intro h;cases h;exact .nil
 | f::fs,zs=>by
   rw [List.map_cons]
   constructor
   ·intro h
    cases h with
    |cons a t=>exact .cons (rM.mp a) (jY.mp t)
   ·intro h
    cases h with
    |cons a t=>exact .cons (rM.mpr a) (jY.mpr t)
theorem mK (nm:Str) (fs:List gr) (d e:PyData):lL nm fs d e ((gV (fs.map bW)).find? (dR nm fs d e)):=by
 have up:(gV (fs.map bW)).Pairwise fun a b=>lx a b=true:=zF fun ts hts=>by
  obtain ⟨f,_,rfl⟩:=List.mem_map.mp hts
  exact Eh f
 have mem:∀ zs,zs∈gV (fs.map bW)↔vJ zs fs:=fun zs=>gO.trans jY
 cases hf:(gV (fs.map bW)).find? (dR nm fs d e) with
 | none=>
   intro zs b
   have:=List.find?_eq_none.mp hf zs ((mem zs).mpr b)
   simpa using this
 | some c=>
   obtain ⟨h1,h2,h3⟩:=qT up hf
   exact ⟨(mem c).mp h1,h2,fun zs b=>h3 zs ((mem zs).mpr b)⟩
theorem wI (nm:Str) (fs:List gr) (d e:PyData) (zs:List Int):dR nm fs d e zs=dR nm fs e d zs:=by
 unfold dR
 cases cF nm fs zs d <;> cases cF nm fs zs e <;> rfl
theorem vR {fs:List gr} (h:∀ f∈fs,Dv f):∀ n,fs.length≤n->(gV (fs.map bW)).length≤9 ^ fs.length:=fun _ _=>by
 have go:∀ (fs:List gr) (rows:List (List Int)),(∀ f∈fs,Dv f)->((fs.map bW).foldl ext rows).length≤rows.length*9 ^ fs.length:=by
  intro fs
  induction fs with
  |nil=>intro rows _;simp
  | cons f t ih=>
    intro rows h
    rw [List.map_cons,List.foldl_cons,List.length_cons,Nat.pow_succ,Nat.mul_comm (9 ^ t.length),← Nat.mul_assoc]
    refine Nat.le_trans (ih _ fun g hg=>h g (.tail _ hg)) (Nat.mul_le_mul_right _ ?_)
    rw [kY]
    exact Nat.mul_le_mul_left _ (nA (h f (.head _)))
 have:=go fs [[]] h
 simpa [gV] using this
def Ob (H:Hp) (v:V) (x:List Int×Int):Prop:=∃ p b,v=.ref p/\H p=some (.tup [.ref b,.int x.2])/\H b=some (.tup (x.1.map V.int))
theorem pX (k:TK H H'):∀ {xs:List V} {rs:List (List Int×Int)},Paired (Ob H) xs rs->Paired (Ob H') xs rs
 |_,_,.nil=>.nil
 |_,_,.cons ⟨p,b,e,h1,h2⟩ t=>.cons ⟨p,b,e,k _ _ h1,k _ _ h2⟩ (pX k t)
def nQ (rows:List (List Int)) (ts:List Int):List (List Int×Int):=rows.flatMap fun r=>ts.map fun v=>(r,v)
theorem vH (rows:List (List Int)) (ts:List Int):(nQ rows ts).map (fun x=>x.1++[x.2])=ext rows ts:=by
 unfold nQ ext
 rw [List.map_flatMap]
 congr 1
 funext r
 rw [List.map_map]
 rfl
theorem Paired.app2 {α β:Type} {R:α->β->Prop}:∀ {a c:List α} {b d:List β},Paired R a b->Paired R c d->Paired R (a++c) (b++d)
 |_,_,_,_,.nil,h=>h
 |_,_,_,_,.cons x t,h=>.cons x (Paired.app2 t h)
def OJ (K:Frag):Sp:=fun vs H Q _=>∃ (q:Addr) (x:V) (ys:List V) (rows:List (List Int)) (f:gr),vs=[.ref q,x]/\H q=some (.lst ys)/\Paired (gW H) ys rows/\iV H x f/\Dv f/\rows.length≤1000/\∀ l zs H',H' l=some (.lst zs)->Paired (Ob H') zs (nQ rows (bW f))->az H H'->Q (.ref l) H'
abbrev WR:List Str:=["_law_rows","_law_field","_law_found","_law_row"]
theorem K6:aN WR ["_law_rows","_law_field"] (aA (top 79)):=by ext
theorem Qx {f:Addr} {fd:FuncData} (F:fK K "_law_all_pairs" "_law_all_pairs" (top 79) f fd) (T:Txt K mg):aJ P w K mg base bB 1 f fd ["_law_rows","_law_field"] (OJ K):=by
 refine F.ok K6 (by ext) fun cdv A outer s H vs Q E hr h=>?_
 obtain ⟨q,x,ys,rows,g,rfl,hq,py,⟨bf,rfl,hbf⟩,sm,rl,k⟩:=h
 refine ⟨_,(ak (aU (i:=2) K6.nd rfl (by first|exact Or.inl rfl|exact Or.inr rfl) (bL aj))
  (ak (dj PassesOwn.never rfl (dM (pv 0)) (aC (i:=3) K6.nd rfl (by first|exact Or.inl rfl|exact Or.inr rfl))
   (aq (bU (gB PySem.F.plainAttrs_list PySem.F.slot_list_extend PySem.F.type_list_extend pG (pv 2) (aa (fZ (g:=bh 0) (own:=["_law_number_here"]) (js:=[3]) (N':=["_law_number_here","_law_row"]) (bw.of (osc:=aA (top 79)) (N:=WR) rfl rfl (by ext)) rfl (xq rfl T.range (aa (a_ bz (pv 1) au (fun _ _=>rfl)) (aa (aX c7 (a_ bz (pv 1) au (fun _ _=>rfl)) au) aj))) (fun _ _ _ _ _=>(aC (i:=0) (show List.Nodup (["_law_number_here","_law_row"]:List Str) by ext) rfl (.inl rfl) (.inr rfl))) (fun _ _ _ _ _=>cI) (fun _ _ _ _ _=>(bN (aa (pv 1) (aa (pv 0) aj))))) aj)))))
  (aq (aD (pv 2))))),?_⟩
 have yl:=Paired.length py
 have fl:=nA sm
 have hlo:=sm.lo
 have hlt:=sm.lt
 have hle:=sm.le
 have hhi:=sm.hi
 refine ⟨(by ext),fun l hl=>?_⟩
 have s0:az H (upd H l (.lst [])):=az.new hl
 have e0:upd H l (.lst []) l=some (.lst []):=ao
 generalize upd H l (.lst [])=H0 at s0 e0 ⊢
 dsimp only [bh,List.set]
 have plen:∀ i,i≤rows.length->(nQ (rows.take i) (bW g)).length≤9*i:=fun i=>by
  induction i with
  |zero=>intro _;simp [nQ]
  | succ i ih=>
    intro h
    have:=ih (by omega)
    rw [List.take_add_one,List.getElem?_eq_getElem (by omega)]
    unfold nQ at this ⊢
    rw [List.flatMap_append,List.length_append,Option.toList_some,List.flatMap_cons,List.flatMap_nil,List.append_nil,List.length_map]
    omega
 refine ⟨_,rfl,q,rfl,⟨_,bD.of (s0 _ _ hq)⟩,ii (K:=K) (a:=q) (xs:=ys) (fun i σ' H'=>∃ zs u,σ'=[some (.ref q),some (.ref bf),some (.ref l),u]/\H' l=some (.lst zs)/\Paired (Ob H') zs (nQ (rows.take i) (bW g))/\az H H') ⟨[],_,rfl,e0,.nil,s0⟩ (fun i σ H' _ ⟨_,_,_,_,_,e⟩=>bD.of (e _ _ hq)) ?_ ?_⟩
 ·rintro i y σ' H1 hi ⟨zs,u,rfl,hl1,pz,s1⟩
  obtain ⟨r,hr',b,rfl,hb⟩:=cH py hi
  have il:=(List.getElem?_eq_some_iff.mp hr').1
  have zl:=Paired.length pz
  have pl:=plen i (by omega)
  have er:nQ (rows.take (i+1)) (bW g)=nQ (rows.take i) (bW g)++(bW g).map fun v=>(r,v):=by
   rw [List.take_add_one,hr']
   unfold nQ
   rw [List.flatMap_append,Option.toList_some,List.flatMap_cons,List.flatMap_nil,List.append_nil]
  dsimp only [bh,List.set]
  refine ⟨_,rfl,.inl ⟨rfl,_,bD.of hl1⟩,_,rfl,bf,_,_,_,rfl,rfl,bI.of (s1 _ _ hbf),aL (j:=1) rfl,_,rfl,bf,_,_,_,rfl,rfl,bI.of (s1 _ _ hbf),aL (j:=2) rfl,_,_,rfl,rfl,_,_,rfl,⟨by omega,by omega,by omega,by omega⟩,?_⟩
  generalize en:(g.2.2+1-g.2.1).toNat=n
  have n9:n≤9:=by omega
  refine iJ (lo:=g.2.1) (n:=n) (fun j ws σ' H'=>(∃ v,σ'=[v,some (.ref b)])/\az H1 H'/\Paired (Ob H') ws ((List.range j).map fun i:Nat=>(r,g.2.1+(i:Int)))) (Nat.le_trans n9 (by decide)) ⟨⟨none,rfl⟩,az.refl _,.nil⟩ ?_ ?_
  ·rintro j ws σ' H' hj hw ⟨⟨v,rfl⟩,s2,pw⟩ M hM
   dsimp only [bh,List.set]
   refine ⟨_,rfl,_,rfl,(by ext),fun p hp=>hM _ _ _ (by rw [List.length_append,hw];rfl) ⟨⟨_,rfl⟩,s2.trans (az.new hp),?_⟩⟩
   rw [List.range_succ,List.map_append]
   exact Paired.snoc2 ⟨p,b,rfl,ao,(s2.trans (az.new hp)) _ _ (s1 _ _ hb)⟩ (pX (az.new hp).tkT pw)
  ·rintro ws σ' H' hw ⟨⟨v,rfl⟩,s2,pw⟩
   refine ⟨by rw [hw];exact Nat.le_trans n9 (by decide),fun p hp=>?_⟩
   have s3:=s2.trans (az.new (o:=.lst ws) hp)
   refine ⟨l,p,zs,ws,rfl,rfl,s3 _ _ hl1,ao,?_,?_⟩
   ·rw [hw,zl]
    exact Nat.le_trans (show _≤10000 by omega) (by decide)
   have tk:TK (upd H' p (.lst ws)) (upd (upd H' p (.lst ws)) l (.lst (zs++ws))):=TK.lst (s3 _ _ hl1)
   refine ⟨zs++ws,_,rfl,ao,?_,fun c o e=>?_⟩
   ·rw [er]
    refine Paired.app2 (pX (s3.tkT.trans tk) pz) ?_
    have ef:(bW g).map (fun v=>(r,v))=(List.range n).map fun i:Nat=>(r,g.2.1+(i:Int)):=by
     unfold bW
     rw [List.map_map,en]
     rfl
    rw [ef]
    exact pX ((az.new hp).tkT.trans tk) pw
   ·rw [aH (aB e hl)]
    exact s3 _ _ (s1 _ _ e)
 ·rintro σ' H1 ⟨zs,u,rfl,hl1,pz,s1⟩
  rw [yl,List.take_length] at pz
  exact ⟨_,rfl,k l zs H1 hl1 pz s1⟩
theorem pP:∀ {zs:List Int} {fs:List gr},vJ zs fs->zs.length=fs.length:=fun h=>Paired.length h
abbrev XN:List Str:=["self","values","at","name","low","high","value"]
theorem wM:aN XN ["self","values"] (aA (kM 4)):=by ext
def As (C:Addr):Sp:=fun vs H Q _=>∃ (o a b:Addr) (n:Str) (fs:List gr) (zs:List Int),vs=[.ref o,.ref b]/\dw C H o n a fs/\H b=some (.tup (zs.map V.int))/\vJ zs fs/\∀ H',az H H'->Q .non H'
theorem KJ (F:fK K "need" "Kind.need" (kM 4) f fd) (T:Txt K mg) (hen:mg "enumerate" = none) (hzp:mg "zip" = none) (KC:KCls K mg C) :
 aJ P w K mg base bB 1 f fd ["self","values"] (As C):=by
 refine F.ok wM (by ext) fun cdv A outer s H vs Q E hr h=>?_
 obtain ⟨o,a,b,n,fs,zs,rfl,⟨⟨dx,ho⟩,xs,ha,pf⟩,hb,fz,k⟩:=h
 refine ⟨_,(ak (dj PassesOwn.never rfl (zx rfl hen rfl hzp (aa (nT (pv 0) rfl) (aa (pv 1) aj))) (cQ rfl (aM (aC (i:=2) wM.nd rfl (.inl rfl)) (aM (cQ rfl (aM (cQ rfl (aM (aC (i:=3) wM.nd rfl (.inl rfl)) (aM (aC (i:=4) wM.nd rfl (.inl rfl)) (aM (aC (i:=5) wM.nd rfl (.inl rfl)) cA)))) (aM (aC (i:=6) wM.nd rfl (.inl rfl)) cA))) cA)))
  (aq (aZ (gA (n6 gJ gJ (pv 4) (pv 6) (pv 5))) (aq cC) aK)))
  (aq (aZ (aG j8 (aP bx (by rfl) T.len cM (aa (pv 1) aj)) (aP bx (by rfl) T.len cM (aa (nT (pv 0) rfl) aj)) (aQ _)) (aq cC) aK))),?_⟩
 have pl:=Paired.length pf
 have zl':(zs.map V.int).length=zs.length:=List.length_map ..
 have fl:=pP fz
 refine ⟨_,rfl,o,C,dx,_,_,rfl,ho,KC.cl,KC.nF,jj n a,_,rfl,a,b,rfl,⟨xs,bI.of ha⟩,⟨_,bI.of hb⟩,?_⟩
 refine xu (K:=K) (a1:=a) (a2:=b) (xs:=xs) (ys:=zs.map V.int) (fun i σ' H'=>(∃ u1 u2 u3 u4 u5,σ'=[some (.ref o),some (.ref b),u1,u2,u3,u4,u5])/\az H H') ⟨⟨none,none,none,none,none,rfl⟩,az.refl _⟩ (fun i σ' H' _ z=>⟨bI.of (z.2 _ _ ha),bI.of (z.2 _ _ hb)⟩) ?_ ?_
 ·rintro i x y σ' H1 q p hx hy ⟨⟨u1,u2,u3,u4,u5,rfl⟩,s1⟩ hq hp
  obtain ⟨⟨m,lo,hi⟩,hfi,bb,rfl,hbb⟩:=cH pf hx
  rw [List.getElem?_map] at hy
  obtain ⟨z,hz,rfl⟩:=Option.map_eq_some_iff.mp hy
  obtain ⟨f',hf',yb⟩:=cH fz hz
  rw [hfi] at hf'
  cases hf'
  have s2:az H1 (upd (upd H1 q (.tup [.ref bb,.int z])) p (.tup [.int i,.ref q])):=(az.new hq).trans (az.new hp)
  have hq2:(upd (upd H1 q (.tup [.ref bb,.int z])) p (.tup [.int i,.ref q])) q=some (.tup [.ref bb,.int z]):=(az.new hp) _ _ ao
  refine ⟨p,_,rfl,bI.of ao,rfl,_,_,rfl,_,_,rfl,q,_,rfl,bI.of hq2,rfl,_,_,rfl,bb,_,rfl,bI.of (s2 _ _ (s1 _ _ hbb)),rfl,_,_,rfl,_,_,rfl,_,_,rfl,rfl,_,_,rfl,rfl,rfl,?_⟩
  dsimp only [bh]
  refine Bq.iff (Bq.not (Bq.test (jW.chain (jW.var rfl) (jW.var rfl) (jW.var rfl) yq.i0 yq.i0))) ?_
  refine gD (fun h=>?_) (fun h=>?_)
  ·exfalso
   have yb:lo≤z/\z≤hi:=yb
   simp [yb.1,yb.2] at h
  ·exact ⟨⟨_,_,_,_,_,rfl⟩,s1.trans s2⟩
 ·rintro σ' H1 ⟨⟨u1,u2,u3,u4,u5,rfl⟩,s1⟩
  refine ⟨_,rfl,b,_,rfl,.inr (bI.of (s1 _ _ hb)),_,rfl,o,C,dx,_,_,rfl,s1 _ _ ho,KC.cl,KC.nF,jj n a,a,xs,rfl,.inr (bI.of (s1 _ _ ha)),rfl,_,rfl,cg (by simp [pl,fl]) (k _ s1)⟩
def Oc (K:Frag) (C:Addr):Sp:=fun vs H Q E=>∃ (x:V) (o a b:Addr) (d:PyData) (nm:Str) (fs:List gr) (zs:List Int),vs=[x,.ref o,.ref b]/\Rep K H x d/\TD d/\dw C H o nm a fs/\fs.length≤4/\H b=some (.tup (zs.map V.int))/\vJ zs fs/\cJ d=true/\∀ H',az H H'->Q (.bl (cF nm fs zs d)) H'
theorem VM:aN ["test","kind","values"] ["test","kind","values"] (aA (top 42)):=by ext
theorem Nk (F:fK K "holds" "holds" (top 42) f fd) (KC:KCls K mg C) (DT:cj K mg "need_test" (top 32) ["test"] fT fdT) (GT:aJ P w K mg base bB 11 fT fdT ["test"] (z9 K cT))
 (MN:MD K C "need" "Kind.need" (kM 4) ["self","values"] fM fdM) (GN:aJ P w K mg base bB 1 fM fdM ["self","values"] (As C)) (DP:cj K mg "passes" (top 43) ["test","kind","values"] fP fdP) (GP:aJ P w K mg base bB 7 fP fdP ["test","kind","values"] (EY K C 5)):aJ P w K mg base bB 12 f fd ["test","kind","values"] (Oc K C):=by
 refine F.ok VM (by ext) fun cdv A outer s H vs Q E hr h=>?_
 obtain ⟨x,o,a,b,d,nm,fs,zs,rfl,rx,td,ka,fl,hb,ib,h1,k⟩:=h
 have hr1:bH 1 _:=hr.mono (show 1≤11 by decide)
 have hr7:bH 7 _:=hr.mono (show 7≤11 by decide)
 refine ⟨_,(ak (bU (b_ DT GT hr (aa (pv 0) aj)))
  (ak (bU (qe (E:=E0) (pv 1) KC.cl MN.M GN hr1 MN.b .nil jE (aa (pv 2) aj)))
  (aq (aD (b_ DP GP hr7 (aa (pv 0) (aa (pv 1) (aa (pv 2) aj)))))))),?_⟩
 refine ⟨_,rfl,x,d,rfl,rx,td,fun _ H1 s1=>?_,fun h2=>by rw [h1] at h2;cases h2⟩
 have ka1:=ka.same s1
 obtain ⟨⟨dx,ho⟩,_⟩:=id ka1
 refine ⟨_,rfl,o,dx,_,rfl,ho,(pM nm a).2,_,rfl,o,a,b,nm,fs,zs,rfl,ka1,s1 _ _ hb,ib,fun H2 s2=>?_⟩
 obtain ⟨sh,de,_⟩:=eQ h1
 obtain ⟨f,r,rfl⟩:=bC td sh
 have S2:=s1.trans s2
 have rx2:=rx.same S2
 cases rx2 with
 |@tup q xs _ sq rs=>
 exact ⟨_,rfl,_,rfl,_,rfl,q,o,a,b,f,nm,r,fs,zs,rfl,⟨.tup sq rs,td,sh,de,ka.same S2,fl,S2 _ _ hb,pP ib⟩,fun H3 s3=>k H3 (S2.trans s3)⟩
inductive xP:PyData->Prop
 |str {x:Str}:xP (.str x)
 |int {i:Int}:xP (.int i)
 |tup {ds:List PyData}:(∀ d∈ds,xP d)->xP (.tuple ds)
theorem TD.noL (td:TD d):xP d:=by
 induction td with
 |str _ _=>exact .str
 |int _ _=>exact .int
 |nil=>exact .tup fun _ h=>by cases h
 | node _ _ _ _ ih=>
   refine .tup fun d h=>?_
   rcases List.mem_cons.mp h with rfl|h
   ·exact .str
   ·exact ih d h
theorem xP.rep (f:∀ a xs,bI K H a xs->bI K H' a xs) (n:xP d):∀ {v:V},Rep K H v d->Rep K H' v d:=by
 induction n with
 |str=>intro v r;cases r;exact .str _
 |int=>intro v r;cases r;exact .int _
 | @tup ds h ih=>
   intro v r
   cases r with
   |@tup a xs _ sq rs=>
   refine .tup (f _ _ sq) ?_
   have go:∀ {l:List PyData} {vs:List V},(∀ d∈l,d∈ds)->bF K H vs l->bF K H' vs l:=by
    intro l
    induction l with
    |nil=>intro vs _ h;cases h;exact .nil
    | cons d l il=>
      intro vs hm h
      cases h with
      |cons a b=>exact .cons (ih d (hm d (.head _)) a) (il (fun e m=>hm e (.tail _ m)) b)
   exact go (fun _ m=>m) rs
theorem xP.reps (f:∀ a xs,bI K H a xs->bI K H' a xs):∀ {ds:List PyData} {vs:List V},(∀ d∈ds,xP d)->bF K H vs ds->bF K H' vs ds
 |_,_,_,.nil=>.nil
 |_,_,n,.cons a b=>.cons ((n _ (.head _)).rep f a) (xP.reps f (fun d m=>n d (.tail _ m)) b)
theorem _root_.L2.cZ.sqt (b:cZ l H H') (hl:H l=some (.lst ys)):∀ a xs,bI K H a xs->bI K H' a xs:=by
 rintro a xs ((h|⟨o,h⟩)|h)
 ·exact .inl (.inl (b _ _ h (fc h hl (by intro z;cases z))))
 ·exact .inl (.inr ⟨o,b _ _ h (fc h hl (by intro z;cases z))⟩)
 ·exact .inr h
theorem zj (td:TD d):∀ {e:PyData},TD e->(cu d e=true↔d=e):=by
 induction td with
 | str a b=>
   intro e te
   cases te <;> simp [cu]
 | int a b=>
   intro e te
   cases te <;> simp [cu]
 | nil=>
   intro e te
   cases te <;> simp [cu,di]
 | @node f r a b c tr ih=>
   intro e te
   cases te with
   |str _ _=>simp [cu]
   |int _ _=>simp [cu]
   |nil=>simp [cu,di]
   | @node f' r' a' b' c' tr'=>
     have:∀ (l l':List PyData),(∀ d∈l,d∈r)->(∀ d∈l',TD d)->(di l l'=true↔l=l'):=by
      intro l
      induction l with
      |nil=>intro l' _ _;cases l' <;> simp [di]
      | cons d l ihl=>
        intro l' h h'
        cases l' with
        |nil=>simp [di]
        | cons e l'=>
          have q1:=ih d (h d (List.mem_cons_self ..)) (h' e (List.mem_cons_self ..))
          have q2:=ihl l' (fun d m=>h d (List.mem_cons_of_mem _ m)) (fun d m=>h' d (List.mem_cons_of_mem _ m))
          simp only [di,Bool.and_eq_true,q1,q2,List.cons.injEq]
     have q:=this r r' (fun _ m=>m) tr'
     simp only [cu,di,Bool.and_eq_true,q,PyData.tuple.injEq,List.cons.injEq,PyData.str.injEq]
     simp
abbrev Rw:=PyData×Nat×Nat
def iu (r:Rw):PyData:=.tuple [r.1,.int r.2.1,.int r.2.2]
def pI (nm:Str) (fs:List gr) (zs:List Int):PyData->Bool
 |.tuple (.str f::r)=>gG nm fs zs f r
 |_=>false
def zW (d:PyData):Prop:=∃ f r,d=.tuple (.str f::r)/\jw f r/\¬ f = "all"
theorem zW.td (h:zW d):TD d:=by
 obtain ⟨f,r,rfl,lf,_⟩:=h
 exact lf.tr.td
inductive Ev (pz:PyData->Bool) (L:List Rw):Nat->Bool->Prop
 |no:Ev pz L 0 false
 |yes:Ev pz L 1 true
 |row {i:Nat} {r:Rw} {b:Bool}:L[i]?=some r->Ev pz L (if pz r.1=true then r.2.1 else r.2.2) b->Ev pz L (i+2) b
structure v_ (L:List Rw):Prop where
 lf:∀ r∈L,zW r.1
 lo:∀ i r,L[i]?=some r->r.2.1<i+2/\r.2.2<i+2
theorem Ev.one (h:Ev pz L g b) (h':Ev pz L g c):b=c:=by
 induction h with
 |no=>cases h';rfl
 |yes=>cases h';rfl
 | row e _ ih=>
   cases h' with
   | row e' h'=>
     rw [e] at e'
     cases e'
     exact ih h'
theorem Ev.more (h:Ev pz L g b):Ev pz (L++M) g b:=by
 induction h with
 |no=>exact .no
 |yes=>exact .yes
 |row e _ ih=>exact .row (by rw [List.getElem?_append_left (List.getElem?_eq_some_iff.mp e).1];exact e) ih
structure Laid (pass:Str->List gr->List Int->Bool) (m y n:Nat) (L L':List Rw) (g:Nat):Prop where
 ex:∃ M,L'=L++M/\M.length≤m
 ok:v_ L'
 lt:g<L'.length+2
 ev:∀ nm fs zs by' bn,Ev (pI nm fs zs) L y by'->Ev (pI nm fs zs) L n bn->Ev (pI nm fs zs) L' g (if pass nm fs zs=true then by' else bn)
theorem uO (ok:v_ L):∀ d∈L.map iu,xP d:=by
 intro d h
 obtain ⟨r,hr,rfl⟩:=List.mem_map.mp h
 refine .tup fun e he=>?_
 simp only [List.mem_cons,List.not_mem_nil,or_false] at he
 rcases he with rfl|rfl|rfl
 ·exact (ok.lf r hr).td.noL
 ·exact .int
 ·exact .int
theorem FQ (ha:zW a.1) (hb:zW b.1):cu (iu a) (iu b)=true↔a=b:=by
 have h1:=zj ha.td hb.td
 obtain ⟨d,y,n⟩:=a
 obtain ⟨e,u,v⟩:=b
 simp [iu,cu,di,h1]
 omega
theorem zZ (ok:v_ L) (lf:zW r.1) (hy:r.2.1<L.length+2) (hn:r.2.2<L.length+2) :
 ((L.map iu).any (fun e=>cu e (iu r))=true->Laid (fun nm fs zs=>pI nm fs zs r.1) 1 r.2.1 r.2.2 L L (2+(L.map iu).findIdx fun e=>cu e (iu r)))/\
 ((L.map iu).any (fun e=>cu e (iu r))=false->(((L++[r]).map iu).any fun e=>cu e (iu r))=true/\Laid (fun nm fs zs=>pI nm fs zs r.1) 1 r.2.1 r.2.2 L (L++[r]) (2+((L++[r]).map iu).findIdx fun e=>cu e (iu r))):=by
 have self:cu (iu r) (iu r)=true:=(FQ lf lf).mpr rfl
 have ok':v_ (L++[r]):=by
  refine ⟨fun q hq=>?_,fun i q hq=>?_⟩
  ·rcases List.mem_append.mp hq with hq|hq
   ·exact ok.lf q hq
   ·cases List.mem_singleton.mp hq;exact lf
  ·rw [List.getElem?_append] at hq
   split at hq
   ·exact ok.lo i q hq
   ·rename_i hi
    rw [List.getElem?_singleton] at hq
    split at hq
    ·cases hq
     omega
    ·cases hq
 have main:∀ {L':List Rw} {M:List Rw},L'=L++M->M.length≤1->v_ L'->(L'.map iu).any (fun e=>cu e (iu r))=true->Laid (fun nm fs zs=>pI nm fs zs r.1) 1 r.2.1 r.2.2 L L' (2+(L'.map iu).findIdx fun e=>cu e (iu r)):=by
  intro L' M e hM ok' h
  have hj:(L'.map iu).findIdx (fun e=>cu e (iu r))<(L'.map iu).length:=List.findIdx_lt_length_of_exists (List.any_eq_true.mp h)
  have hg:=List.findIdx_getElem (p:=fun e=>cu e (iu r)) (xs:=L'.map iu) (w:=hj)
  rw [List.length_map] at hj
  rw [List.getElem_map] at hg
  have er:L'[(L'.map iu).findIdx fun e=>cu e (iu r)]=r:=(FQ (ok'.lf _ (List.getElem_mem _)) lf).mp hg
  refine ⟨⟨M,e,hM⟩,ok',by omega,fun nm fs zs by' bn h1 h2=>?_⟩
  rw [Nat.add_comm]
  refine .row (r:=r) (by rw [List.getElem?_eq_getElem hj,er]) ?_
  subst e
  cases pI nm fs zs r.1 with
  |true=>exact h1.more
  |false=>exact h2.more
 refine ⟨fun h=>main (M:=[]) (by simp) (by simp) ok h,fun h=>?_⟩
 have h':(((L++[r]).map iu).any fun e=>cu e (iu r))=true:=by
  rw [List.map_append,List.any_append,List.map_singleton,List.any_cons,self]
  simp
 exact ⟨h',main (M:=[r]) rfl (by simp) ok' h'⟩
theorem xT (ok:v_ L) (hy:y<L.length+2):Laid pass m y y L L y:=
 ⟨⟨[],by simp,by simp⟩,ok,hy,fun nm fs zs by' bn h1 h2=>by rw [h1.one h2];simp;exact h2⟩
theorem Be (ok:v_ L) (hy:y<L.length+2):Laid (fun _ _ _=>true) m y n L L y:=
 ⟨⟨[],by simp,by simp⟩,ok,hy,fun nm fs zs by' bn h1 h2=>h1⟩
theorem Laid.not (h:Laid pass m n y L L' g):Laid (fun nm fs zs=>!pass nm fs zs) m y n L L' g:=
 ⟨h.ex,h.ok,h.lt,fun nm fs zs by' bn h1 h2=>by
  have:=h.ev nm fs zs bn by' h2 h1
  try dsimp only
  cases hp:pass nm fs zs <;> rw [hp] at this <;> exact this⟩
theorem Laid.len (h:Laid pass m y n L L' g):L.length≤L'.length/\L'.length≤L.length+m:=by
 obtain ⟨M,rfl,hM⟩:=h.ex
 rw [List.length_append]
 omega
theorem Laid.evs (h:Laid pass m y n L L' g) (e:Ev pz L k b):Ev pz L' k b:=by
 obtain ⟨M,rfl,hM⟩:=h.ex
 exact e.more
theorem Laid.and (h2:Laid p2 m2 y n L L1 g1) (h1:Laid p1 m1 g1 n L1 L2 g2):Laid (fun nm fs zs=>p1 nm fs zs && p2 nm fs zs) (m1+m2) y n L L2 g2:=by
 obtain ⟨M1,e1,l1⟩:=h2.ex
 obtain ⟨M2,e2,l2⟩:=h1.ex
 refine ⟨⟨M1++M2,by rw [e2,e1,List.append_assoc],by rw [List.length_append];omega⟩,h1.ok,h1.lt,fun nm fs zs by' bn a b=>?_⟩
 have:=h1.ev nm fs zs _ _ (h2.ev nm fs zs _ _ a b) (h2.evs b)
 try dsimp only
 cases hp:p1 nm fs zs <;> rw [hp] at this <;> simpa using this
theorem Laid.or (h2:Laid p2 m2 y n L L1 g1) (h1:Laid p1 m1 y g1 L1 L2 g2):Laid (fun nm fs zs=>p1 nm fs zs || p2 nm fs zs) (m1+m2) y n L L2 g2:=by
 obtain ⟨M1,e1,l1⟩:=h2.ex
 obtain ⟨M2,e2,l2⟩:=h1.ex
 refine ⟨⟨M1++M2,by rw [e2,e1,List.append_assoc],by rw [List.length_append];omega⟩,h1.ok,h1.lt,fun nm fs zs by' bn a b=>?_⟩
 have:=h1.ev nm fs zs _ _ (h2.evs a) (h2.ev nm fs zs _ _ a b)
 try dsimp only
 cases hp:p1 nm fs zs <;> rw [hp] at this <;> simpa using this
structure zV (mg:Str->Option Value):Prop where
 no:∃ t,mg "NO" = some (.int 0 t)
 yes:∃ t,mg "YES" = some (.int 1 t)
 row:∃ t,mg "ROW" = some (.int 2 t)
theorem qb (ok:v_ L):bK (L.map iu)≤60:=by
 have go:∀ l:List PyData,(∀ d∈l,cR d≤2)->bK l≤2:=by
  intro l
  induction l with
  |nil=>intro _;simp [bK]
  | cons d l ih=>
    intro h
    have h1:=h d (.head _)
    have h2:=ih fun e m=>h e (.tail _ m)
    simp only [bK]
    omega
 refine Nat.le_trans (go _ fun d hd=>?_) (by decide)
 obtain ⟨r,hr,rfl⟩:=List.mem_map.mp hd
 obtain ⟨f,q,e,lf,_⟩:=ok.lf r hr
 have:=lf.tr.dp
 rw [← e] at this
 simp only [iu,cR,bK]
 omega
theorem jn:decide (V.int i=V.int j)=decide (i=j):=by simp
def xG (K:Frag) (H:Hp) (l:Addr) (L:List Rw):Prop:=∃ xs,H l=some (.lst xs)/\bF K H xs (L.map iu)
def Hk (K:Frag):Sp:=fun vs H Q _=>∃ (x:V) (d:PyData) (y n:Nat) (l:Addr) (L:List Rw),vs=[x,.int y,.int n,.ref l]/\Rep K H x d/\zW d/\xG K H l L/\v_ L/\L.length≤100/\y<L.length+2/\n<L.length+2/\
 ∀ (g:Nat) L' H',Laid (fun nm fs zs=>pI nm fs zs d) 1 y n L L' g->xG K H' l L'->cZ l H H'->Q (.int g) H'
abbrev Mf:List Str:=["leaf","yes","no","laid"]
abbrev XC:List Str:=["leaf","yes","no","laid","row"]
theorem R3:aN XC Mf (aA (top 59)):=by ext
theorem QX (F:fK K "lay_row" "lay_row" (top 59) f fd) (TW:zV mg):aJ P w K mg base bB 1 f fd Mf (Hk K):=by
 refine F.ok R3 (by ext) fun cdv A outer s H vs Q E hr h=>?_
 obtain ⟨x,d,y,n,l,L,rfl,rd,lf,⟨xs,hl,rs⟩,ok,ll,hy,hn,k⟩:=h
 obtain ⟨t2,mr⟩:=TW.row
 refine ⟨_,(ak (aZ (aG bQ (pv 1) (pv 2) (aQ _)) (aq (aD (pv 1))) aK)
  (ak (aU (i:=4) R3.nd rfl (.inl rfl) (bN (aa (pv 0) (aa (pv 1) (aa (pv 2) aj)))))
  (ak (aZ (aG (xQ hr.units) (pv 4) (pv 3) rfl) (aq (bU (gB PySem.F.plainAttrs_list PySem.F.slot_list_append PySem.F.type_list_append dJ (pv 3) (aa (pv 4) aj)))) aK)
  (aq (aD (aX c7 (bj (v:=.int 2) rfl mr ⟨_,rfl⟩) (gB PySem.F.plainAttrs_list PySem.F.slot_list_index PySem.F.type_list_index (xf hr.units) (pv 3) (aa (pv 4) aj)))))))),?_⟩
 refine ⟨_,rfl,_,rfl,rfl,_,rfl,?_⟩
 rw [jn]
 by_cases e:y=n
 ·subst e
  exact cL (by simp) ⟨_,rfl,k y L H (xT ok hy) ⟨xs,hl,rs⟩ cZ.refl⟩
 refine cg (by simp;omega) ?_
 refine ⟨_,rfl,_,rfl,_,rfl,(by ext),fun p hp=>?_⟩
 have s1:az H (upd H p (.tup [x,.int y,.int n])):=az.new hp
 have rp:Rep K (upd H p (.tup [x,.int y,.int n])) (.ref p) (iu (d,y,n)):=.tup (bI.of ao) (.cons (rd.same s1) (.cons (.int _) (.cons (.int _) .nil)))
 generalize upd H p (.tup [x,.int y,.int n])=H1 at s1 rp ⊢
 have hl1:=s1 _ _ hl
 have rs1:=rs.same s1
 obtain ⟨k1,k2⟩:=zZ (r:=(d,y,n)) ok lf hy hn
 have b1:cZ l H H1:=fun b o e _=>s1 _ _ e
 refine ⟨_,rfl,_,rfl,l,xs,L.map iu,iu (d,y,n),rp,rfl,bD.of hl1,rs1,qb ok,_,rfl,?_⟩
 cases h:(L.map iu).any fun e=>cu e (iu (d,y,n)) with
 | true=>
   refine cg rfl ?_
   refine ⟨_,rfl,.inl ⟨rfl,_,bD.of hl1⟩,_,rfl,l,_,_,xs,_,rfl,rfl,rp,bD.of hl1,rs1,qb ok,h,_,_,rfl,rfl,?_⟩
   have:=k _ L H1 (k1 h) ⟨xs,hl1,rs1⟩ b1
   rw [Int.natCast_add] at this
   exact this
 | false=>
   obtain ⟨h',lk⟩:=k2 h
   refine cL rfl ?_
   have xl:=rs1.length
   rw [List.length_map] at xl
   refine ⟨_,rfl,.inl ⟨rfl,_,bD.of hl1⟩,_,rfl,l,xs,_,rfl,rfl,hl1,eX (by omega),?_⟩
   have b2:cZ l H1 (upd H1 l (.lst (xs++[.ref p]))):=cZ.upd
   have f2:=b2.sqt (K:=K) hl1
   have hl2:upd H1 l (.lst (xs++[.ref p])) l=some (.lst (xs++[.ref p])):=ao
   have rp2:Rep K (upd H1 l (.lst (xs++[.ref p]))) (.ref p) (iu (d,y,n)):=(uO lk.ok _ (List.mem_map.mpr ⟨(d,y,n),by simp,rfl⟩)).rep f2 rp
   have rs2:bF K (upd H1 l (.lst (xs++[.ref p]))) (xs++[.ref p]) ((L++[(d,y,n)]).map iu):=by
    rw [List.map_append]
    exact gC (xP.reps f2 (uO ok) rs1) (.cons rp2 .nil)
   generalize upd H1 l (.lst (xs++[.ref p]))=H2 at b2 f2 hl2 rp2 rs2 ⊢
   refine ⟨_,rfl,.inl ⟨rfl,_,bD.of hl2⟩,_,rfl,l,_,_,_,_,rfl,rfl,rp2,bD.of hl2,rs2,qb lk.ok,h',_,_,rfl,rfl,?_⟩
   have:=k _ _ H2 lk ⟨_,hl2,rs2⟩ (b1.trans b2)
   rw [Int.natCast_add] at this
   exact this
theorem Laid.by (h:Laid p m y n L L' g) (e:∀ nm fs zs,p nm fs zs=q nm fs zs) (hm:m≤m'):Laid q m' y n L L' g:=by
 obtain ⟨M,e1,l1⟩:=h.ex
 exact ⟨⟨M,e1,by omega⟩,h.ok,h.lt,fun nm fs zs a b x y=>by rw [← e];exact h.ev nm fs zs a b x y⟩
def Jw (K:Frag) (n:Nat):Sp:=fun vs H Q _=>∃ (q:Addr) (f:Str) (r:List PyData) (y m:Nat) (l:Addr) (L:List Rw),vs=[.ref q,.int y,.int m,.ref l]/\Rep K H (.ref q) (.tuple (.str f::r))/\TD (.tuple (.str f::r))/\bA (.tuple (.str f::r))=true/\aY (.tuple (.str f::r))≤n/\
 xG K H l L/\v_ L/\L.length+(gb (.tuple (.str f::r))).length≤100/\y<L.length+2/\m<L.length+2/\
 ∀ (g:Nat) L' H',Laid (fun nm fs zs=>dq nm fs zs n f r) (gb (.tuple (.str f::r))).length y m L L' g->xG K H' l L'->cZ l H H'->Q (.int g) H'
abbrev Mg:List Str:=["test","yes","no","laid"]
abbrev XM:List Str:=["test","yes","no","laid","form"]
theorem Q9:aN XM Mg (aA (top 58)):=by ext
theorem Qo (D:cj K mg "lay_test" (top 58) Mg f fd) (DR:cj K mg "lay_row" (top 59) Mf fR fdR) (GR:aJ P w K mg base bB 1 fR fdR Mf (Hk K)) (n:Nat):aJ P w K mg base bB (n+1) f fd Mg (Jw K n):=by
 refine Nat.rec (motive:=fun n=>aJ P w K mg base bB (n+1) f fd Mg (Jw K n)) ⟨fun _ _ _ _ h=>?_,fun _ _ _ _ _ _ _ _ _ _ _ _ _ h=>?_⟩ (fun n GL=>?_) n
 ·obtain ⟨q,f,r,y,m,l,L,_,_,_,_,h,_⟩:=h
  exact absurd (Nat.le_trans (bT _) h) (by decide)
 ·obtain ⟨q,f,r,y,m,l,L,_,_,_,_,h,_⟩:=h
  exact absurd (Nat.le_trans (bT _) h) (by decide)
 refine D.F.ok Q9 (by ext) fun cdv A outer s H vs Q E hr h=>?_
 obtain ⟨q,f,r,y,m,l,L,rfl,rq,td,sh,de,⟨xs,hl,rs0⟩,ok,ll,hy,hm,k⟩:=h
 have hr1:bH 1 _:=hr.mono (show 1≤n+1 by omega)
 refine ⟨_,(ak (aU (i:=4) Q9.nd rfl (.inl rfl) (a_ bz (pv 0) au (fun _ _=>rfl)))
  (ak (aZ (aG bQ (pv 4) aO (aQ _)) (aq (aD (pv 1))) aK)
  (ak (aZ (aG bQ (pv 4) aO (aQ _)) (aq (aD (b_ D GL hr (aa (a_ bz (pv 0) au (fun _ _=>rfl)) (aa (pv 2) (aa (pv 1) (aa (pv 3) aj))))))) aK)
  (ak (aZ (aG bQ (pv 4) aO (aQ _)) (aq (aD (b_ D GL hr (aa (a_ bz (pv 0) au (fun _ _=>rfl)) (aa (b_ D GL hr (aa (a_ bz (pv 0) au (fun _ _=>rfl)) (aa (pv 1) (aa (pv 2) (aa (pv 3) aj))))) (aa (pv 2) (aa (pv 3) aj))))))) aK)
  (ak (aZ (aG bQ (pv 4) aO (aQ _)) (aq (aD (b_ D GL hr (aa (a_ bz (pv 0) au (fun _ _=>rfl)) (aa (pv 1) (aa (b_ D GL hr (aa (a_ bz (pv 0) au (fun _ _=>rfl)) (aa (pv 1) (aa (pv 2) (aa (pv 3) aj))))) (aa (pv 3) aj))))))) aK)
  (aq (aD (b_ DR GR hr1 (aa (pv 0) (aa (pv 1) (aa (pv 2) (aa (pv 3) aj)))))))))))),?_⟩
 have rq0:=rq
 have td0:=td
 cases td with
 |node af lf nr tr=>
 cases rq with
 |@tup _ us _ sq rs=>
 obtain ⟨x0,ys,rfl⟩:∃ x0 ys,us=x0::ys:=by cases rs;exact ⟨_,_,rfl⟩
 obtain ⟨r0,rt⟩:Rep K H x0 (.str f)/\bF K H ys r:=by cases rs with|cons a b=>exact ⟨a,b⟩
 cases r0
 refine ⟨_,rfl,q,_,_,_,rfl,rfl,sq,aL (j:=0) rfl,_,rfl,rfl,_,rfl,?_⟩
 have el:gb (.tuple (.str f::r))=if (arity f).isSome=true then dZ r else [.tuple (.str f::r)]:=rfl
 by_cases ha:f = "all"
 ·subst ha
  refine cL (by ext) ⟨_,rfl,k y L H ?_ ⟨xs,hl,rs0⟩ cZ.refl⟩
  refine (Be (m:=0) (n:=m) ok hy).by (fun nm fs zs=>?_) (Nat.zero_le _)
  unfold dq
  rw [if_neg (by ext),if_neg (by ext),if_neg (by ext)]
  unfold gG
  rw [if_pos rfl]
 refine cg (dU ha) ⟨_,rfl,rfl,_,rfl,?_⟩
 rcases dm sh de with ⟨hna,hlf⟩|N
 ·obtain ⟨n1,n2,n3⟩:=pB hna
  rw [hna] at el
  have el:gb (.tuple (.str f::r))=[.tuple (.str f::r)]:=el
  rw [el] at k ll
  refine cg (dU n1) ⟨_,rfl,rfl,_,rfl,cg (dU n2) ⟨_,rfl,rfl,_,rfl,cg (dU n3) ?_⟩⟩
  refine ⟨_,rfl,_,rfl,_,rfl,_,rfl,.ref q,_,y,m,l,L,rfl,rq0,⟨f,r,rfl,iQ hlf,ha⟩,⟨xs,hl,rs0⟩,ok,by omega,hy,hm,fun g L' H' la ld b=>k g L' H' (la.by (fun nm fs zs=>?_) (Nat.le_refl _)) ld b⟩
  unfold dq
  rw [if_neg n1,if_neg n2,if_neg n3]
  rfl
 ·have el:gb (.tuple (.str f::r))=dZ r:=by rw [el,N.ar];rfl
  rcases pL N tr with ⟨rfl,g,u,rfl⟩|⟨hf,g,u,h,v,rfl⟩
  ·rw [bR] at el
   rw [el] at k ll
   cases rt with
   |@cons y1 _ y2 _ r1 r2=>
   cases r2
   cases r1 with
   |@tup q1 z1 _ s1 t1=>
   refine cL (by ext) ⟨_,rfl,q,_,_,_,rfl,rfl,sq,aL (j:=1) rfl,_,rfl,_,rfl,_,rfl,q1,g,u,m,y,l,L,rfl,.tup s1 t1,tr _ (by simp),N.sh _ (by simp),N.de _ (by simp),⟨xs,hl,rs0⟩,ok,ll,hm,hy,fun g' L' H' la ld b=>k g' L' H' (la.not.by (fun nm fs zs=>?_) (Nat.le_refl _)) ld b⟩
   conv=>rhs;unfold dq
   rw [if_pos rfl]
  ·have e2:dZ [.tuple (.str g::u),.tuple (.str h::v)]=gb (.tuple (.str g::u))++gb (.tuple (.str h::v)):=by rw [show [PyData.tuple (.str g::u),PyData.tuple (.str h::v)]=[.tuple (.str g::u)]++[.tuple (.str h::v)] from rfl,fj,bR,bR]
   rw [el,e2,List.length_append] at k ll
   cases rt with
   |@cons y1 _ y2 _ r1 r2=>
   cases r2 with
   |@cons y3 _ y4 _ r2 r3=>
   cases r3
   cases r1 with
   |@tup q1 z1 _ s1 t1=>
   cases r2 with
   |@tup q2 z2 _ s2 t2=>
   have n1:¬ f = "not":=by rcases hf with rfl|rfl <;> decide +kernel
   refine cg (dU n1) ⟨_,rfl,rfl,_,rfl,?_⟩
   have i1:∀ {H1:Hp},cZ l H H1->Rep K H1 (.ref q1) (.tuple (.str g::u)):=fun b=>(tr _ (by simp)).noL.rep (b.sqt hl) (.tup s1 t1)
   rcases hf with rfl|rfl
   ·refine cL (by ext) ⟨_,rfl,q,_,_,_,rfl,rfl,sq,aL (j:=1) rfl,_,rfl,q,_,_,_,rfl,rfl,sq,aL (j:=2) rfl,_,rfl,_,rfl,_,rfl,q2,h,v,y,m,l,L,rfl,.tup s2 t2,tr _ (by simp),N.sh _ (by simp),N.de _ (by simp),⟨xs,hl,rs0⟩,ok,by omega,hy,hm,fun g1 L1 H1 la1 ld1 b1=>?_⟩
    have l1:=la1.len
    refine ⟨_,rfl,_,rfl,q1,g,u,g1,m,l,L1,rfl,i1 b1,tr _ (by simp),N.sh _ (by simp),N.de _ (by simp),ld1,la1.ok,by omega,la1.lt,by omega,fun g2 L2 H2 la2 ld2 b2=>k g2 L2 H2 ((la1.and la2).by (fun nm fs zs=>?_) (Nat.le_refl _)) ld2 (b1.trans b2)⟩
    conv=>rhs;unfold dq
    rw [if_neg (by ext),if_pos rfl]
   ·refine cg (by ext) ⟨_,rfl,rfl,_,rfl,cL (by ext) ⟨_,rfl,q,_,_,_,rfl,rfl,sq,aL (j:=1) rfl,_,rfl,_,rfl,q,_,_,_,rfl,rfl,sq,aL (j:=2) rfl,_,rfl,_,rfl,_,rfl,q2,h,v,y,m,l,L,rfl,.tup s2 t2,tr _ (by simp),N.sh _ (by simp),N.de _ (by simp),⟨xs,hl,rs0⟩,ok,by omega,hy,hm,fun g1 L1 H1 la1 ld1 b1=>?_⟩⟩
    have l1:=la1.len
    refine ⟨_,rfl,q1,g,u,y,g1,l,L1,rfl,i1 b1,tr _ (by simp),N.sh _ (by simp),N.de _ (by simp),ld1,la1.ok,by omega,by omega,la1.lt,fun g2 L2 H2 la2 ld2 b2=>k g2 L2 H2 ((la1.or la2).by (fun nm fs zs=>?_) (Nat.le_refl _)) ld2 (b1.trans b2)⟩
    conv=>rhs;unfold dq
    rw [if_neg (by ext),if_neg (by ext),if_pos rfl]
abbrev lW:=Bool ⊕ Nat
def jV:lW->V
 |.inl b=>.bl b
 |.inr n=>.int n
def jD:lW->PyData
 |.inl b=>.bool b
 |.inr n=>.int n
theorem Mz (K:Frag) (H:Hp):∀ j:lW,Rep K H (jV j) (jD j)
 |.inl b=>.bl b
 |.inr n=>.int n
abbrev uE:=PyData×lW×lW
def Hd (r:uE):PyData:=.tuple [r.1,jD r.2.1,jD r.2.2]
def yt (i n:Nat):lW->Prop
 |.inl _=>True
 |.inr k=>i<k/\k<n
structure Xk (W:List uE):Prop where
 lf:∀ r∈W,zW r.1
 jp:∀ i r,W[i]?=some r->yt i W.length r.2.1/\yt i W.length r.2.2
def vD (st:lW) (W:List uE):Prop:=(∃ b,st=.inl b/\W=[])∨(st=.inr 0/\0<W.length/\Xk W)
inductive Wk (pz:PyData->Bool) (W:List uE):lW->Bool->Prop
 |fin {b:Bool}:Wk pz W (.inl b) b
 |row {k:Nat} {r:uE} {b:Bool}:W[k]?=some r->Wk pz W (if pz r.1=true then r.2.1 else r.2.2) b->Wk pz W (.inr k) b
structure yw (L:List Rw) (g i:Nat) (O R:List Nat):Prop where
 dec:O.Pairwise (· > ·)
 bd:∀ n∈O,2≤n/\n≤g/\g<n+i
 hd:1≤i->O[0]?=some g
 rg:g∈R
 rr:∀ n∈O,∀ r,L[n-2]?=some r->r.2.1∈R/\r.2.2∈R
 cl:∀ n∈R,2≤n->n≤g->g<n+i->n∈O
 ol:O.length≤i
 rl:R.length≤1+2*i
theorem yw.zero:yw L g 0 [] [g]:=
 ⟨.nil,(fun _ h=>by cases h),fun h=>by omega,by simp,(fun _ h=>by cases h),fun n h _ _ _=>by omega,by simp,by simp⟩
theorem yw.skip (o:yw L g i O R) (hi:i+2≤g) (hn:g-i∉R):yw L g (i+1) O R:=by
 refine ⟨o.dec,fun n h=>?_,fun h=>?_,o.rg,o.rr,fun n h h2 hg hc=>?_,?_,?_⟩
 ·have:=o.bd n h;omega
 ·by_cases h0:i=0
  ·subst h0
   exact absurd o.rg (by simpa using hn)
  ·exact o.hd (by omega)
 ·by_cases e:n=g-i
  ·subst e;exact absurd h hn
  ·exact o.cl n h h2 hg (by omega)
 ·have:=o.ol;omega
 ·have:=o.rl;omega
theorem yw.take (ok:v_ L) (o:yw L g i O R) (hi:i+2≤g) (hn:g-i∈R) (hr:L[g-i-2]?=some r):yw L g (i+1) (O++[g-i]) (R++[r.2.1,r.2.2]):=by
 have lo:=ok.lo _ _ hr
 refine ⟨?_,fun n h=>?_,fun h=>?_,List.mem_append_left _ o.rg,fun n h q hq=>?_,fun n h h2 hg hc=>?_,?_,?_⟩
 ·rw [List.pairwise_append]
  refine ⟨o.dec,.cons (fun _ h=>by cases h) .nil,fun a ha b hb=>?_⟩
  cases List.mem_singleton.mp hb
  have:=o.bd a ha
  show g-i<a
  omega
 ·rcases List.mem_append.mp h with h|h
  ·have:=o.bd n h;omega
  ·cases List.mem_singleton.mp h;omega
 ·by_cases h0:i=0
  ·subst h0
   have:=o.ol
   have:O=[]:=List.eq_nil_of_length_eq_zero (by omega)
   subst this
   simp
  ·have:=o.hd (by omega)
   rw [List.getElem?_append_left (List.getElem?_eq_some_iff.mp this).1]
   exact this
 ·rcases List.mem_append.mp h with h|h
  ·have:=o.rr n h q hq
   exact ⟨List.mem_append_left _ this.1,List.mem_append_left _ this.2⟩
  ·cases List.mem_singleton.mp h
   rw [hr] at hq
   cases hq
   exact ⟨List.mem_append_right _ (by simp),List.mem_append_right _ (by simp)⟩
 ·rcases List.mem_append.mp h with h|h
  ·by_cases e:n=g-i
   ·subst e;exact List.mem_append_right _ (by simp)
   ·exact List.mem_append_left _ (o.cl n h h2 hg (by omega))
  ·simp only [List.mem_cons,List.not_mem_nil,or_false] at h
   rcases h with rfl|rfl <;> omega
 ·rw [List.length_append];have:=o.ol;simp;omega
 ·rw [List.length_append];have:=o.rl;simp;omega
def ww (O:List Nat) (m:Nat):lW:=if m=0 then .inl false else if m=1 then .inl true else .inr (O.idxOf m)
def xH (O:List Nat) (r:Rw):uE:=(r.1,ww O r.2.1,ww O r.2.2)
theorem uP {t:List Nat} (h:¬ x=a):(x::t).idxOf a=t.idxOf a+1:=by
 rw [List.idxOf_cons,show (x == a)=false from by simp [h]]
 rfl
theorem vP:∀ {O:List Nat} {a b:Nat},O.Pairwise (· > ·)->a∈O->b∈O->b<a->O.idxOf a<O.idxOf b
 | x::t,a,b,h,ha,hb,hlt=>by
   cases h with
   |cons h1 h2=>
   by_cases e:x=a
   ·subst e
    rw [List.idxOf_cons_self,uP (by omega)]
    omega
   ·by_cases e':x=b
    ·subst e'
     rcases List.mem_cons.mp ha with z|z
     ·omega
     ·have:=h1 a z;omega
    ·rw [uP e,uP e']
     have:=vP h2 ((List.mem_cons.mp ha).resolve_left fun z=>e z.symm) ((List.mem_cons.mp hb).resolve_left fun z=>e' z.symm) hlt
     omega
theorem Ia (ok:v_ L) (hg:2≤g) (hl:g<L.length+2) (o:yw L g (g-1) O R) (hw:∀ j:Nat,W[j]?=(O[j]?).bind fun n=>(L[n-2]?).map (xH O)) (wl:W.length=O.length) :
 vD (.inr 0) W/\W.length≤L.length/\∀ pz b,Ev pz L g b->Wk pz W (.inr 0) b:=by
 have nd:O.Nodup:=o.dec.imp fun h=>by omega
 have h0:=o.hd (by omega)
 have ol:=o.ol
 have pos:0<O.length:=(List.getElem?_eq_some_iff.mp h0).1
 have cl:∀ n∈O,∀ r,L[n-2]?=some r->∀ m,m=r.2.1∨m=r.2.2->m<n/\(2≤m->m∈O):=fun n hn r hr m hm=>by
  have b:=o.bd n hn
  have lo:=ok.lo _ _ hr
  have rr:=o.rr n hn r hr
  refine ⟨by rcases hm with rfl|rfl <;> omega,fun h2=>o.cl m (by rcases hm with rfl|rfl;exact rr.1;exact rr.2) h2 (by rcases hm with rfl|rfl <;> omega) (by omega)⟩
 have jok:∀ n∈O,∀ m,m<n/\(2≤m->m∈O)->yt (O.idxOf n) O.length (ww O m):=fun n hn m ⟨h1,h2⟩=>by
  unfold ww
  split
  ·trivial
  ·split
   ·trivial
   ·have hm:=h2 (by omega)
    exact ⟨vP o.dec hn hm h1,List.idxOf_lt_length_iff.mpr hm⟩
 have at_:∀ j r,W[j]?=some r->∃ n q,O[j]?=some n/\L[n-2]?=some q/\r=xH O q/\n∈O/\O.idxOf n=j:=fun j r h=>by
  rw [hw j,Option.bind_eq_some_iff] at h
  obtain ⟨n,hn,h⟩:=h
  obtain ⟨q,hq,rfl⟩:=Option.map_eq_some_iff.mp h
  have hj:=(List.getElem?_eq_some_iff.mp hn).1
  refine ⟨n,q,hn,hq,rfl,List.mem_of_getElem? hn,?_⟩
  have:=(List.getElem?_eq_some_iff.mp hn).2
  rw [← this]
  exact nd.idxOf_getElem j hj
 refine ⟨.inr ⟨rfl,by omega,⟨fun r hr=>?_,fun j r h=>?_⟩⟩,by omega,fun pz b=>?_⟩
 ·obtain ⟨j,hj⟩:=List.getElem?_of_mem hr
  obtain ⟨n,q,_,hq,rfl,_⟩:=at_ j r hj
  exact ok.lf q (List.mem_of_getElem? hq)
 ·obtain ⟨n,q,hn,hq,rfl,hm,rfl⟩:=at_ j r h
  rw [wl]
  exact ⟨jok n hm _ (cl n hm q hq _ (.inl rfl)),jok n hm _ (cl n hm q hq _ (.inr rfl))⟩
 ·have go:∀ {m:Nat} {b:Bool},Ev pz L m b->(2≤m->m∈O)->Wk pz W (ww O m) b:=by
   intro m b h
   induction h with
   |no=>intro _;exact .fin
   |yes=>intro _;exact .fin
   | @row i r b e _ ih=>
     intro hm
     have hm:=hm (by omega)
     have ej:ww O (i+2)=.inr (O.idxOf (i+2)):=by
      unfold ww
      rw [if_neg (by omega),if_neg (by omega)]
     rw [ej]
     have hi:=List.idxOf_lt_length_iff.mpr hm
     refine .row (r:=xH O r) (by rw [hw,List.getElem?_eq_getElem hi,List.getElem_idxOf,Option.bind_some,show i+2-2=i from by omega,e];rfl) ?_
     have c:=cl (i+2) hm r e
     show Wk pz W (if pz r.1=true then ww O r.2.1 else ww O r.2.2) b
     cases hp:pz r.1 with
     | true=>
       rw [hp] at ih
       exact ih (c _ (.inl rfl)).2
     | false=>
       rw [hp] at ih
       exact ih (c _ (.inr rfl)).2
  intro h
  have:=go h fun _=>o.cl g o.rg hg (Nat.le_refl _) (by omega)
  have e:ww O g=.inr 0:=by
   unfold ww
   rw [if_neg (by omega),if_neg (by omega)]
   have:O[0]=g:=(List.getElem?_eq_some_iff.mp h0).2
   rw [← this,nd.idxOf_getElem 0 pos]
  rw [e] at this
  exact this
def nV (R:List Nat):List V:=R.map fun n:Nat=>V.int n
theorem Ea (R:List Nat):(nV R).all jL=true:=by
 unfold nV
 rw [List.all_map,List.all_eq_true]
 intro n _
 rfl
theorem G8 (m:Nat):∀ R:List Nat,inV (.int m) (nV R)=decide (m∈R)
 |[]=>by simp [inV,nV]
 | n::R=>by
   have ih:=G8 m R
   unfold inV nV at ih ⊢
   rw [List.map_cons,List.any_cons,ih]
   show ((n:Int) == (m:Int) || _)=_
   rw [Bool.eq_iff_iff]
   simp
   constructor
   ·rintro (h|h)
    ·exact .inl (by omega)
    ·exact .inr h
   ·rintro (h|h)
    ·exact .inl (by omega)
    ·exact .inr h
def qN (O:List Nat) (i m:Nat):Option V:=if m∈O.take i then some (.int (O.idxOf m:Nat)) else if m=1 then some (.bl true) else if m=0 then some (.bl false) else none
theorem Aw (nd:O.Nodup) (h:O[i]?=some n):qN O (i+1) m=if m=n then some (.int (i:Nat)) else qN O i m:=by
 have hi:=(List.getElem?_eq_some_iff.mp h).1
 have hn:=(List.getElem?_eq_some_iff.mp h).2
 unfold qN
 rw [List.take_add_one,h]
 by_cases e:m=n
 ·subst e
  rw [if_pos (by simp),if_pos rfl]
  have:O.idxOf m=i:=by rw [← hn];exact nd.idxOf_getElem i hi
  rw [this]
 ·rw [if_neg e]
  simp [e]
theorem Aa (h:∀ n∈O,2≤n) (hm:m<2∨m∈O):qN O O.length m=some (jV (ww O m)):=by
 unfold qN ww
 rw [List.take_length]
 by_cases h0:m=0
 ·subst h0
  rw [if_neg (fun z=>by have:=h _ z;omega),if_neg (by decide),if_pos rfl,if_pos rfl];rfl
 ·by_cases h1:m=1
  ·subst h1
   rw [if_neg (fun z=>by have:=h _ z;omega),if_pos rfl,if_neg (by decide),if_pos rfl];rfl
  ·rw [if_pos (hm.resolve_left (by omega)),if_neg h0,if_neg h1];rfl
theorem mq {m n:Nat}:((Sum.inl (m:Int):Key)=Sum.inl (n:Int))↔m=n:=by
 constructor
 ·intro h;injection h with h;omega
 ·rintro rfl;rfl
def JW (K:Frag):Sp:=fun vs H Q _=>∃ (g:Nat) (l:Addr) (L:List Rw),vs=[.int g,.ref l]/\xG K H l L/\v_ L/\L.length≤100/\g<L.length+2/\
 ∀ p lw ws st W H',H' p=some (.tup [jV st,.ref lw])->H' lw=some (.lst ws)->bF K H' ws (W.map Hd)->vD st W->W.length≤L.length->(∀ pz b,Ev pz L g b->Wk pz W st b)->az H H'->Q (.ref p) H'
abbrev Vp:List Str:=["goal","laid","reached","order","number","ends","at","rows"]
theorem q_:aN Vp ["goal","laid"] (aA (top 60)):=by ext
theorem K5:List.Nodup (["leaf","yes","no","ends"]:List Str):=by ext
theorem MF {mg:Str->Option Value} {f:Addr} {fd:FuncData} (F:fK K "way_from" "way_from" (top 60) f fd) (T:Txt K mg) (TW:zV mg) (hrv:mg "reversed" = none) (hen:mg "enumerate" = none):aJ P w K mg base bB 1 f fd ["goal","laid"] (JW K):=by
 refine F.ok q_ (by ext) fun cdv A outer s H vs Q E hr h=>?_
 obtain ⟨g,l,L,rfl,⟨xs,hl,rs⟩,ok,ll,hg,k⟩:=h
 obtain ⟨t0,m0⟩:=TW.no
 obtain ⟨t1,m1⟩:=TW.yes
 obtain ⟨t2,m2⟩:=TW.row
 have hu:=vy hr
 refine ⟨_,(ak (aZ (aG jH (pv 0) (bj (v:=.int 2) rfl m2 ⟨_,rfl⟩) (aQ _)) (aq (aD (bN (aa (cU bQ (pv 0) (bj (v:=.int 1) rfl m1 ⟨_,rfl⟩) (aQ _)) (aa (bL aj) aj))))) aK)
  (ak (aU (i:=2) q_.nd rfl (.inl rfl) (bL (aa (pv 0) aj)))
  (ak (aU (i:=3) q_.nd rfl (.inl rfl) (bL aj))
  (ak (dj PassesOwn.never rfl (Lf rfl hrv rfl T.range (aa (bj (v:=.int 2) rfl m2 ⟨_,rfl⟩) (aa (aX c7 (pv 0) au) aj))) (aC (i:=4) q_.nd rfl (.inl rfl)) (aq
   (aZ (aG jm (pv 4) (pv 2) rfl) (ak (bU (gB PySem.F.plainAttrs_list PySem.F.slot_list_append PySem.F.type_list_append dJ (pv 3) (aa (pv 4) aj)))
    (aq (bU (gB PySem.F.plainAttrs_list PySem.F.slot_list_extend PySem.F.type_list_extend ux (pv 2) (aa (cD iD (a_ d7 (pv 1) (aX fU (pv 4) (bj (v:=.int 2) rfl m2 ⟨_,rfl⟩)) (fun _ _=>rfl)) (bV au) g8) aj))))) aK)))
  (ak (aU (i:=5) q_.nd rfl (.inr rfl) (vh (ie (bj (v:=.int 0) rfl m0 ⟨_,rfl⟩) pq (ie (bj (v:=.int 1) rfl m1 ⟨_,rfl⟩) pq vN)) rfl rfl (List.cons_ne_nil _ _) (by show 2≤15;decide)))
  (ak (dj PassesOwn.never rfl (sG rfl hen gh (aa (pv 3) aj)) (cQ rfl (aM (aC (i:=6) q_.nd rfl (.inl rfl)) (aM (aC (i:=4) q_.nd rfl (.inl rfl)) cA))) (aq (iM hu (pv 5) (pv 4) (pv 6) rfl)))
  (ak (iC (g:=bh 0) (i:=7) (own:=["number"]) (js:=[1]) (N':=["number","laid"]) (bw.of (osc:=aA (top 60)) (N:=Vp) rfl rfl (by ext)) rfl q_.nd rfl rfl (dM (pv 3)) (fun _ _ _ _ _=>(aC (i:=0) (show List.Nodup (["number","laid"]:List Str) by ext) rfl (.inl rfl) (.inr rfl))) (fun _ _ _ _ _=>cI) (fun _ _ _ _ _=>(a_ (r:=zq K) d7 (pv 1) (aX fU (pv 0) (bj (v:=.int 2) rfl m2 ⟨_,rfl⟩)) (fun _ _=>rfl))))
  (aq (aD (bN (aa au (aa (fZ (g:=Vh K) (own:=["leaf","yes","no"]) (js:=[5]) (N':=["leaf","yes","no","ends"]) (bw.of (osc:=aA (top 60)) (N:=Vp) rfl rfl (by ext)) rfl (dM (pv 7)) (fun _ _ _ _ _=>(cQ rfl (aM (aC (i:=0) K5 rfl (.inl rfl) (.inr rfl)) (aM (aC (i:=1) K5 rfl (.inl rfl) (.inr rfl)) (aM (aC (i:=2) K5 rfl (.inl rfl) (.inr rfl)) cA))))) (fun _ _ _ _ _=>cI) (fun _ _ _ _ _=>(bN (aa (pv 0) (aa (cO hu (pv 3) (pv 1) (fun _ _=>rfl)) (aa (cO hu (pv 3) (pv 2) (fun _ _=>rfl)) aj)))))) aj)))))))))))),?_⟩
 refine ⟨_,rfl,_,_,rfl,rfl,_,rfl,?_⟩
 by_cases h2:g<2
 ·refine cL (by simp;omega) ⟨_,rfl,rfl,(by ext),fun q hq=>⟨(by ext),fun p hp=>?_⟩⟩
  have e:decide (V.int (g:Int)=V.int 1)=decide (g=1):=by rw [jn,decide_eq_decide];omega
  have s1:az H (upd H q (.lst [])):=az.new hq
  have s2:=s1.trans (az.new (o:=.tup [.bl (decide (V.int (g:Int)=V.int 1)),.ref q]) hp)
  refine k p q [] (.inl (decide (g=1))) [] _ (by rw [← e];exact ao) ((az.new hp) _ _ ao) .nil (.inl ⟨_,rfl,rfl⟩) (Nat.zero_le _) (fun pz b h=>?_) s2
  cases h with
  |no=>exact .fin
  |yes=>exact .fin
  |row=>omega
 refine cg (by simp;omega) ⟨_,rfl,(by ext),fun qr hqr=>⟨(by ext),fun qo hqo=>?_⟩⟩
 have s0:az H (upd (upd H qr (.lst [.int g])) qo (.lst [])):=(az.new hqr).trans (az.new hqo)
 have nro:qr≠qo:=fun z=>by rw [← z,ao] at hqo;cases hqo
 have er:upd (upd H qr (.lst [.int g])) qo (.lst []) qr=some (.lst (nV [g])):=by rw [aH nro,ao];rfl
 have eo:upd (upd H qr (.lst [.int g])) qo (.lst []) qo=some (.lst (nV [])):=ao
 have hqo':H qo=none:=dI (az.new hqr) hqo
 generalize upd (upd H qr (.lst [.int g])) qo (.lst [])=H0 at s0 er eo ⊢
 dsimp only [bh,List.set,L2.start]
 have xl:=rs.length
 rw [List.length_map] at xl
 have nat1:(g:Int)+1-2=((g-1:Nat):Int):=by omega
 refine ⟨_,rfl,_,_,rfl,rfl,2,(g:Int)+1,rfl,⟨by omega,by omega,by omega,by omega,by omega⟩,vQ (fun i σ H'=>∃ O R u,σ=[some (.int g),some (.ref l),some (.ref qr),some (.ref qo),u,none,none,none]/\H' qr=some (.lst (nV R))/\H' qo=some (.lst (nV O))/\yw L g i O R/\az H H') ⟨[],[g],none,rfl,er,eo,yw.zero,s0⟩ ?_ ?_⟩
 ·rintro i σ H1 hi ⟨O,R,u,rfl,er,eo,od,s1⟩
  have hi:i+2≤g:=by omega
  have en:(g:Int)+1-1-(i:Int)=((g-i:Nat):Int):=by omega
  rw [en]
  dsimp only [bh,List.set]
  have ol:=od.ol
  have rl:=od.rl
  refine ⟨_,rfl,_,rfl,qr,nV R,rfl,.inl (bD.of er),rfl,Ea R,_,rfl,?_⟩
  show if inV (.int ((g-i:Nat):Int)) (nV R)=true then _ else _
  rw [G8]
  by_cases hm:g-i∈R
  ·refine cL (decide_eq_true hm) ?_
   obtain ⟨r,hrw⟩:∃ r,L[g-i-2]?=some r:=⟨L[g-i-2]'(by omega),List.getElem?_eq_getElem _⟩
   have od':=od.take ok hi hm hrw
   refine ⟨_,rfl,.inl ⟨rfl,_,bD.of eo⟩,_,rfl,qo,_,_,rfl,rfl,eo,eX (by unfold nV;rw [List.length_map];omega),?_⟩
   have s2:az H (upd H1 qo (.lst (nV O++[.int ((g-i:Nat):Int)]))):=fun b o e=>by rw [aH (aB e hqo')];exact s1 _ _ e
   have er2:upd H1 qo (.lst (nV O++[.int ((g-i:Nat):Int)])) qr=some (.lst (nV R)):=by rw [aH nro];exact er
   have eo2:upd H1 qo (.lst (nV O++[.int ((g-i:Nat):Int)])) qo=some (.lst (nV (O++[g-i]))):=by rw [ao];unfold nV;rw [List.map_append];rfl
   generalize upd H1 qo (.lst (nV O++[.int ((g-i:Nat):Int)]))=H2 at s2 er2 eo2 ⊢
   have rs2:=rs.same s2
   obtain ⟨x,hx,rx⟩:=rs2.get (i:=g-i-2) (d:=iu r) (by rw [List.getElem?_map,hrw];rfl)
   have e3:((g-i:Nat):Int)-2=((g-i-2:Nat):Int):=by omega
   cases rx with
   |@tup a us _ sq ru=>
   obtain ⟨x0,rfl⟩:∃ x0,us=[x0,.int r.2.1,.int r.2.2]:=by
    cases ru with|cons r1 r2=>cases r2 with|cons r2 r3=>cases r3 with|cons r3 r4=>cases r2;cases r3;cases r4;exact ⟨_,rfl⟩
   refine ⟨_,rfl,.inl ⟨rfl,_,bD.of er2⟩,_,rfl,_,rfl,_,_,rfl,rfl,l,_,_,_,rfl,rfl,bD.of (s2 _ _ hl),(by rw [e3];exact aL hx),1,rfl,a,_,rfl,sq,(fun e=>?_),fun p hp=>?_⟩
   ·rw [m5] at e
    have:=congrArg List.length e
    simp at this
   rw [m5]
   have s3:=s2.trans (az.new (o:=.tup [.int (r.2.1:Nat),.int (r.2.2:Nat)]) hp)
   have er3:=(az.new (o:=.tup [.int (r.2.1:Nat),.int (r.2.2:Nat)]) hp) _ _ er2
   have eo3:=(az.new (o:=.tup [.int (r.2.1:Nat),.int (r.2.2:Nat)]) hp) _ _ eo2
   have ep:upd H2 p (.tup [.int (r.2.1:Nat),.int (r.2.2:Nat)]) p=some (.tup [.int (r.2.1:Nat),.int (r.2.2:Nat)]):=ao
   generalize upd H2 p (.tup [.int (r.2.1:Nat),.int (r.2.2:Nat)])=H3 at s3 er3 eo3 ep ⊢
   refine ⟨qr,p,_,_,rfl,rfl,er3,ep,Nat.le_trans (show _≤1000 by unfold nV;rw [List.length_map];simp;omega) (by decide),?_⟩
   refine ⟨O++[g-i],R++[r.2.1,r.2.2],_,rfl,?_,?_,od',fun b o e=>?_⟩
   ·rw [ao];unfold nV;rw [List.map_append];rfl
   ·rw [aH nro.symm];exact eo3
   ·rw [aH (aB e hqr)];exact s3 _ _ e
  ·exact cg (decide_eq_false hm) ⟨O,R,_,rfl,er,eo,od.skip hi hm,s1⟩
 ·rintro σ H1 ⟨O,R,u,rfl,er,eo,od,s1⟩
  have od:yw L g (g-1) O R:=by
   have:((g:Int)+1-2).toNat=g-1:=by omega
   rw [this] at od
   exact od
  have nd:O.Nodup:=od.dec.imp fun h=>by omega
  have ol:=od.ol
  have two:∀ n∈O,2≤n/\n-2<L.length:=fun n h=>by have:=od.bd n h;omega
  have nl:(nV O).length=O.length:=by unfold nV;rw [List.length_map]
  have big:1000≤sizeLine:=by decide
  refine fun qd hqd=>⟨ao,[(.inl 0,.bl false),(.inl 1,.bl true)],rfl,by decide,?_⟩
  have hqd':H qd=none:=dI s1 hqd
  have s2:az H (upd (upd H1 qd (.dK [])) qd (.dK (iR [] [(.inl 0,.bl false),(.inl 1,.bl true)]))):=fun b o e=>by rw [aH (aB e hqd'),aH (aB e hqd')];exact s1 _ _ e
  have nod:qo≠qd:=aB eo hqd
  have eo2:(upd (upd H1 qd (.dK [])) qd (.dK (iR [] [(.inl 0,.bl false),(.inl 1,.bl true)]))) qo=some (.lst (nV O)):=by rw [aH nod,aH nod];exact eo
  have ed:(upd (upd H1 qd (.dK [])) qd (.dK (iR [] [(.inl 0,.bl false),(.inl 1,.bl true)]))) qd=some (.dK (putK (putK [] (.inl 0) (.bl false)) (.inl 1) (.bl true))):=ao
  generalize upd (upd H1 qd (.dK [])) qd (.dK (iR [] [(.inl 0,.bl false),(.inl 1,.bl true)]))=H2 at s2 eo2 ed ⊢
  dsimp only [bh,List.set]
  have v0:∀ m:Nat,eO (putK (putK ([]:List (Key×V)) (.inl 0) (.bl false)) (.inl 1) (.bl true)) (.inl (m:Int))=qN O 0 m:=fun m=>by
   rw [jX,jX,zX]
   unfold qN
   rw [List.take_zero,if_neg (show ¬ m∈([]:List Nat) from nofun)]
   by_cases h1:m=1
   ·subst h1;rfl
   ·rw [if_neg (show ¬ (Sum.inl (m:Int):Key)=Sum.inl 1 from fun z=>h1 (mq.mp z)),if_neg h1]
    by_cases h0:m=0
    ·subst h0;rfl
    ·rw [if_neg (show ¬ (Sum.inl (m:Int):Key)=Sum.inl 0 from fun z=>h0 (mq.mp z)),if_neg h0]
  refine ⟨_,rfl,qo,rfl,⟨_,bD.of eo2⟩,wL (K:=K) (a:=qo) (xs:=nV O) (fun i σ H'=>∃ u v kvs,σ=[some (.int g),some (.ref l),some (.ref qr),some (.ref qo),u,some (.ref qd),v,none]/\H' qd=some (.dK kvs)/\kvs.length≤2+i/\(∀ m:Nat,eO kvs (.inl (m:Int))=qN O i m)/\H' qo=some (.lst (nV O))/\az H H')
   ⟨_,_,_,rfl,ed,by decide,v0,eo2,s2⟩ (fun i σ H' _ ⟨_,_,_,_,_,_,_,e,_⟩=>bD.of e) ?_ ?_⟩
  ·rintro i v σ H3 p hv ⟨u,v',kvs,rfl,hd,kl,kv,eo3,s3⟩ hp
   unfold nV at hv
   rw [List.getElem?_map] at hv
   obtain ⟨n,hn,rfl⟩:=Option.map_eq_some_iff.mp hv
   have il:=(List.getElem?_eq_some_iff.mp hn).1
   refine ⟨p,_,rfl,bI.of ao,rfl,_,_,rfl,_,_,rfl,rfl,?_⟩
   have s4:=s3.trans (az.new (o:=.tup [.int (i:Nat),.int (n:Nat)]) hp)
   have hd4:=(az.new (o:=.tup [.int (i:Nat),.int (n:Nat)]) hp) _ _ hd
   have eo4:=(az.new (o:=.tup [.int (i:Nat),.int (n:Nat)]) hp) _ _ eo3
   generalize upd H3 p (.tup [.int (i:Nat),.int (n:Nat)])=H4 at s4 hd4 eo4 ⊢
   have pl:=e_ kvs (.inl (n:Int)) (.int (i:Nat))
   refine ⟨_,rfl,_,rfl,_,rfl,qd,_,rfl,nG.k (k:=.inl (n:Int)) hd4 (Nat.lt_of_lt_of_le (show _<1000 by omega) big),?_⟩
   refine ⟨_,_,_,rfl,ao,by omega,fun m=>?_,by rw [aH nod];exact eo4,fun b o e=>by rw [aH (aB e hqd')];exact s4 _ _ e⟩
   rw [jX,kv,Aw nd hn]
   by_cases e:m=n
   ·subst e;rw [if_pos rfl,if_pos rfl]
   ·rw [if_neg (fun z=>e (mq.mp z)),if_neg e]
  rintro σ H3 ⟨u2,v2,kvs,rfl,hd,kl,kv,eo3,s3⟩
  rw [nl] at kv
  have rs3:=rs.same s3
  have hl3:=s3 _ _ hl
  refine ⟨_,rfl,qo,rfl,⟨_,bD.of eo3⟩,?_⟩
  refine jf (K:=K) (a:=qo) (xs:=nV O) (fun i ys σ' H'=>(∃ v,σ'=[v,some (.ref l)])/\H'=H3/\ys=(O.take i).map fun n=>xs.getD (n-2) .non) (by omega) ⟨⟨none,rfl⟩,rfl,rfl⟩ (fun i ys σ' H' _ ⟨_,e,_⟩=>by rw [e];exact bD.of eo3) ?_ ?_
  ·rintro i x ys σ' H' hx hys ⟨⟨v,rfl⟩,rfl,rfl⟩ N hN
   unfold nV at hx
   rw [List.getElem?_map] at hx
   obtain ⟨n,hn,rfl⟩:=Option.map_eq_some_iff.mp hx
   obtain ⟨t1',t2'⟩:=two n (List.mem_of_getElem? hn)
   have e3:(n:Int)-2=((n-2:Nat):Int):=by omega
   have hxn:xs[n-2]?=some (xs.getD (n-2) .non):=by rw [List.getD_eq_getElem?_getD,List.getElem?_eq_getElem (by omega)];rfl
   dsimp only [bh,List.set]
   exact ⟨_,rfl,_,rfl,_,_,rfl,rfl,l,_,_,_,rfl,rfl,bD.of hl3,(by rw [e3];exact aL hxn),hN _ _ _ (by rw [List.length_append,hys];rfl) ⟨⟨_,rfl⟩,rfl,by rw [List.take_add_one,hn];simp⟩⟩
  rintro ws σ' H' hws ⟨⟨v,rfl⟩,rfl,rfl⟩
  rw [nl,List.take_length]
  refine ⟨by rw [List.length_map];omega,fun q7 hq7=>?_⟩
  have s4:=s3.trans (az.new (o:=.lst (O.map fun n=>xs.getD (n-2) .non)) hq7)
  have e7:upd H' q7 (.lst (O.map fun n=>xs.getD (n-2) .non)) q7=some (.lst (O.map fun n=>xs.getD (n-2) .non)):=ao
  have hd4:=(az.new (o:=.lst (O.map fun n=>xs.getD (n-2) .non)) hq7) _ _ hd
  generalize upd H' q7 (.lst (O.map fun n=>xs.getD (n-2) .non))=H4 at s4 e7 hd4 ⊢
  have rs4:=rs.same s4
  have cl:∀ n∈O,∀ r,L[n-2]?=some r->∀ m,m=r.2.1∨m=r.2.2->m<2∨m∈O:=fun n hn r hr m hm=>by
   have b:=od.bd n hn
   have lo:=ok.lo _ _ hr
   have rr:=od.rr n hn r hr
   by_cases h2:m<2
   ·exact .inl h2
   ·exact .inr (od.cl m (by rcases hm with rfl|rfl;exact rr.1;exact rr.2) (by omega) (by rcases hm with rfl|rfl <;> omega) (by omega))
  have dg:∀ {H':Hp} {m:Nat},H' qd=some (.dK kvs)->(m<2∨m∈O)->jz H' qd (.int m) (some (jV (ww O m))):=fun {H' m} e h=>by
   have:=jz.k (k:=.inl (m:Int)) e
   rw [kv,Aa (fun n hn=>(two n hn).1) h] at this
   exact this
  let W:List uE:=O.map fun n=>xH O ((L[n-2]?).getD (.none,0,0))
  have wl:W.length=O.length:=List.length_map ..
  have wj:∀ j:Nat,W[j]?=(O[j]?).bind fun n=>(L[n-2]?).map (xH O):=fun j=>by
   show (O.map _)[j]?=_
   rw [List.getElem?_map]
   cases hj:O[j]? with
   |none=>rfl
   | some n=>
     have:=(two n (List.mem_of_getElem? hj)).2
     rw [Option.map_some,Option.bind_some,List.getElem?_eq_getElem this]
     rfl
  obtain ⟨wo,wle,wev⟩:=Ia ok (by omega) hg od wj wl
  dsimp only [bh,List.set]
  refine ⟨_,rfl,q7,rfl,⟨_,bD.of e7⟩,?_⟩
  refine jf (K:=K) (a:=q7) (xs:=O.map fun n=>xs.getD (n-2) .non) (fun i ys σ' H'=>(∃ u v w,σ'=[u,v,w,some (.ref qd)])/\az H4 H'/\bF K H' ys ((W.take i).map Hd)) (by rw [List.length_map];omega) ⟨⟨none,none,none,rfl⟩,az.refl _,.nil⟩ (fun i ys σ' H' _ ⟨_,e,_⟩=>bD.of (e _ _ e7)) ?_ ?_
  ·rintro i x ys σ' H5 hx hys ⟨⟨u,v,w,rfl⟩,s5,ry⟩ N hN
   rw [List.getElem?_map] at hx
   obtain ⟨n,hn,rfl⟩:=Option.map_eq_some_iff.mp hx
   have mn:=List.mem_of_getElem? hn
   obtain ⟨t1',t2'⟩:=two n mn
   have hrw:L[n-2]?=some L[n-2]:=List.getElem?_eq_getElem t2'
   generalize L[n-2]=r at hrw
   obtain ⟨x,hx,rx⟩:=rs4.get (i:=n-2) (d:=iu r) (by rw [List.getElem?_map,hrw];rfl)
   have ex:xs.getD (n-2) .non=x:=by rw [List.getD_eq_getElem?_getD,hx];rfl
   rw [ex]
   have rx5:=rx.same s5
   cases rx5 with
   |@tup a us _ sq ru=>
   obtain ⟨x0,rfl,rx0⟩:∃ x0,us=[x0,.int r.2.1,.int r.2.2]/\Rep K H5 x0 r.1:=by
    cases ru with|cons r1 r2=>cases r2 with|cons r2 r3=>cases r3 with|cons r3 r4=>cases r2;cases r3;cases r4;exact ⟨_,rfl,r1⟩
   refine ⟨a,_,rfl,sq,rfl,_,_,rfl,_,_,rfl,_,_,rfl,rfl,?_⟩
   have d5:=s5 _ _ hd4
   refine ⟨_,rfl,_,rfl,_,rfl,qd,_,rfl,dg d5 (cl n mn r hrw _ (.inl rfl)),_,rfl,_,rfl,qd,_,rfl,dg d5 (cl n mn r hrw _ (.inr rfl)),(by ext),fun p hp=>hN _ _ _ (by rw [List.length_append,hys];rfl) ⟨⟨_,_,_,rfl⟩,s5.trans (az.new hp),?_⟩⟩
   have ew:W[i]?=some (xH O r):=by rw [wj,hn,Option.bind_some,hrw];rfl
   rw [List.take_add_one,ew,List.map_append]
   refine gC (ry.same (az.new hp)) (.cons (.tup (bI.of ao) (.cons (rx0.same (az.new hp)) (.cons (Mz _ _ _) (.cons (Mz _ _ _) .nil)))) .nil)
  ·rintro ws σ' H5 hws ⟨_,s5,ry⟩
   rw [List.length_map,← wl,List.take_length] at ry
   refine ⟨by rw [hws,List.length_map];omega,fun lw hlw=>⟨(by ext),fun p hp=>?_⟩⟩
   have s6:=(az.new (o:=.lst ws) hlw).trans (az.new (o:=.tup [.int 0,.ref lw]) hp)
   exact k p lw ws (.inr 0) W _ ao ((az.new hp) _ _ ao) (ry.same s6) wo wle wev ((s4.trans s5).trans s6)
section
variable {P:Program} {w:World} {K:PySem.W.Frag} {mg:Str->Option Value} {base:Heap}
structure jC (K:Frag) (H:Hp) (p lw:Addr) (st:lW) (W:List uE):Prop where
 hp:H p=some (.tup [jV st,.ref lw])
 hl:∃ ws,H lw=some (.lst ws)/\bF K H ws (W.map Hd)
 ok:vD st W
theorem jC.same (h:jC K H p lw st W) (s:az H H'):jC K H' p lw st W:=by
 obtain ⟨hp,⟨ws,hl,rs⟩,ok⟩:=h
 exact ⟨s _ _ hp,⟨ws,s _ _ hl,rs.same s⟩,ok⟩
def Lg (K:Frag) (cT:Addr):Sp:=fun vs H Q E=>∃ (x:V) (d:PyData),vs=[x]/\Rep K H x d/\TD d/\
 (cJ d=true->∀ p lw st W H',jC K H' p lw st W->W.length≤(gb d).length->(∀ nm fs zs,Wk (pI nm fs zs) W st (cF nm fs zs d))->az H H'->Q (.ref p) H')/\
 (cJ d=false->False)
theorem RG:aN ["test","laid"] ["test"] (aA (top 57)):=by ext
theorem Sy (F:fK K "made" "made" (top 57) f fd) (TW:zV mg) (DN:cj K mg "need_test" (top 32) ["test"] fN fdN) (GN:aJ P w K mg base bB 11 fN fdN ["test"] (z9 K cT))
 (DL:cj K mg "lay_test" (top 58) Mg fL fdL) (GL:aJ P w K mg base bB 6 fL fdL Mg (Jw K 5)) (DW:cj K mg "way_from" (top 60) ["goal","laid"] fW fdW) (GW:aJ P w K mg base bB 1 fW fdW ["goal","laid"] (JW K)):aJ P w K mg base bB 12 f fd ["test"] (Lg K cT):=by
 refine F.ok RG (by ext) fun cdv A outer s H vs Q E hr h=>?_
 obtain ⟨x,d,rfl,rx,td,k,kx⟩:=h
 obtain ⟨t0,m0⟩:=TW.no
 obtain ⟨t1,m1⟩:=TW.yes
 have hr6:bH 6 _:=hr.mono (by decide)
 have hr1:bH 1 _:=hr.mono (by decide)
 refine ⟨_,(ak (bU (b_ DN GN hr (aa (pv 0) aj)))
  (ak (aU (i:=1) RG.nd rfl (by first|exact Or.inl rfl|exact Or.inr rfl) (bL aj))
  (aq (aD (b_ DW GW hr1 (aa (b_ DL GL hr6 (aa (pv 0) (aa (bj (v:=.int 1) rfl m1 ⟨_,rfl⟩) (aa (bj (v:=.int 0) rfl m0 ⟨_,rfl⟩) (aa (pv 1) aj))))) (aa (pv 1) aj))))))),?_⟩
 refine ⟨_,rfl,x,d,rfl,rx,td,fun h1 H1 s1=>?_,kx⟩
 obtain ⟨sh,de,pa⟩:=eQ h1
 have k:=k h1
 have ll:=iI td sh de
 have p5:(2:Nat) ^ 5=32:=by decide
 obtain ⟨f,r,rfl⟩:=bC td sh
 refine ⟨(by ext),fun l hl=>?_⟩
 have s2:=s1.trans (az.new (o:=.lst []) hl)
 have hl0:H l=none:=dI s1 hl
 have e2:upd H1 l (.lst []) l=some (.lst []):=ao
 generalize upd H1 l (.lst [])=H2 at s2 e2 ⊢
 have rx2:=rx.same s2
 cases rx2 with
 |@tup q us _ sq rs=>
 refine ⟨_,rfl,_,rfl,q,f,r,1,0,l,[],rfl,.tup sq rs,td,sh,de,⟨[],e2,.nil⟩,⟨(fun _ h=>by cases h),fun i r h=>by simp at h⟩,by simp;omega,by simp,by simp,fun g L' H3 la ld b3=>?_⟩
 have ln:=la.len
 simp at ln
 have s3:az H H3:=fun b o e=>b3 _ _ (s2 _ _ e) (aB e hl0)
 refine ⟨_,rfl,g,l,L',rfl,ld,la.ok,by omega,la.lt,fun p lw ws st W H4 h1 h2 h3 wo wl we s4=>k p lw st W H4 ⟨h1,⟨ws,h2,h3⟩,wo⟩ (by omega) (fun nm fs zs=>?_) (s3.trans s4)⟩
 have:=we _ _ (la.ev nm fs zs _ _ .yes .no)
 show Wk _ _ _ (dq nm fs zs 5 f r)
 cases hp:dq nm fs zs 5 f r <;> rw [hp] at this <;> exact this
end
theorem yU (h:jw f r):fQ f r=true:=by
 have:=h.tr.sh
 rw [eN,h.ar,if_pos rfl] at this
 exact this
def QG (K:Frag):List V->Hp->VK->Prop:=fun xs H Q=>∃ p ys,xs=[.ref p]/\(bD K H p ys∨bI K H p ys)/\Q (.int ys.length) H
def Fz (K:Frag):Sp:=fun vs H Q _=>∃ (j:lW) (i n:Nat),vs=[jV j,.int i,.int n]/\yt i n j/\Q (.bl true) H
theorem R9:aN ["goal","at","many"] ["goal","at","many"] (aA (top 55)):=by ext
theorem GJ (F:fK K "leads_on" "leads_on" (top 55) f fd) (T:Txt K mg):aJ P w K mg base bB 1 f fd ["goal","at","many"] (Fz K):=by
 refine F.ok R9 (by ext) fun cdv A outer s H vs Q E hr h=>?_
 obtain ⟨j,i,n,rfl,jo,k⟩:=h
 refine ⟨_,(aq (aD (Gb (aP bY (by rfl) T.isinstance aV (aa (pv 0) (aa (dG rfl T.bool eY) aj))) (eV (mG jH jH (pv 1) (pv 0) (pv 2)))))),?_⟩
 cases j with
 |inl b=>exact ⟨_,rfl,_,_,_,_,rfl,.bl b,rfl,_,rfl,cL rfl k⟩
 | inr m=>
   obtain ⟨h1,h2⟩:=(show i<m/\m<n from jo)
   refine ⟨_,rfl,_,_,_,_,rfl,.int _,rfl,_,rfl,cg rfl ?_⟩
   refine jW.chain (jW.var rfl) (jW.var rfl) (jW.var rfl) yq.i0 yq.i0 _ ?_
   rw [decide_eq_true (show (i:Int)<m by omega),decide_eq_true (show (m:Int)<n by omega)]
   exact k
def Qg (K:Frag):Sp:=fun vs H Q _=>∃ (x:V) (d:PyData),vs=[x]/\Rep K H x d/\zW d/\Q (.bl true) H
theorem UG:aN ["leaf"] ["leaf"] (aA (top 54)):=by ext
theorem PJ {f fL:Addr} {fd fdL:FuncData} (F:fK K "can_be_asked" "can_be_asked" (top 54) f fd) (T:Txt K mg) (DL:cj K mg "is_leaf" (top 29) ["test"] fL fdL) (GL:aJ P w K mg base bB 3 fL fdL ["test"] (HW K)):aJ P w K mg base bB 4 f fd ["leaf"] (Qg K):=by
 refine F.ok UG (by ext) fun cdv A outer s H vs Q E hr h=>?_
 obtain ⟨x,d,rfl,rx,⟨f,r,rfl,lf,na⟩,k⟩:=h
 refine ⟨_,(aq (aD (cY (cU uX (aP bx (by rfl) T.len cM (aa (pv 0) aj)) au (aQ _)) (cY (cU j8 (a_ bz (pv 0) au (fun _ _=>rfl)) aO (aQ _)) (eV (b_ DL GL hr (aa (pv 0) aj))))))),?_⟩
 have rx0:=rx
 cases rx with
 |@tup q us _ sq rs=>
 obtain ⟨x0,ys,rfl⟩:∃ x0 ys,us=x0::ys:=by cases rs;exact ⟨_,_,rfl⟩
 obtain ⟨r0,rt⟩:Rep K H x0 (.str f)/\bF K H ys r:=by cases rs with|cons a b=>exact ⟨a,b⟩
 cases r0
 refine ⟨_,rfl,q,_,rfl,.inr sq,_,_,rfl,rfl,_,rfl,cL (by simp) ?_⟩
 refine ⟨_,rfl,q,_,_,_,rfl,rfl,sq,aL (j:=0) rfl,rfl,_,rfl,cL (by rw [dU na];rfl) ?_⟩
 refine ⟨_,rfl,q,f,r,rfl,rx0,lf.tr.td,?_⟩
 rw [yU lf]
 exact k
def Mq (K:Frag):Sp:=fun vs H Q _=>∃ (x:V) (r:uE) (i n:Nat),vs=[x,.int i,.int n]/\Rep K H x (Hd r)/\zW r.1/\yt i n r.2.1/\yt i n r.2.2/\Q (.bl true) H
abbrev Xd:List Str:=["row","at","many","leaf","yes","no"]
theorem Dc:aN Xd ["row","at","many"] (aA (top 53)):=by ext
theorem tZ (h:Rep K H x (Hd r)):∃ a x0,x=.ref a/\bI K H a [x0,jV r.2.1,jV r.2.2]/\Rep K H x0 r.1:=by
 have jv:∀ {v:V} {j:lW},Rep K H v (jD j)->v=jV j:=by
  intro v j h
  cases j with
  |inl b=>cases h;rfl
  |inr n=>cases h;rfl
 cases h with
 |@tup a us _ sq ru=>
 cases ru with|cons r1 r2=>cases r2 with|cons r2 r3=>cases r3 with|cons r3 r4=>
 cases r4
 cases jv r2
 cases jv r3
 exact ⟨a,_,rfl,sq,r1⟩
theorem QW (F:fK K "is_row" "is_row" (top 53) f fd) (DC:cj K mg "can_be_asked" (top 54) ["leaf"] fC fdC) (GC:aJ P w K mg base bB 4 fC fdC ["leaf"] (Qg K)) (DL:cj K mg "leads_on" (top 55) ["goal","at","many"] fL fdL) (GL:aJ P w K mg base bB 1 fL fdL ["goal","at","many"] (Fz K)):aJ P w K mg base bB 5 f fd ["row","at","many"] (Mq K):=by
 refine F.ok Dc (by ext) fun cdv A outer s H vs Q E hr h=>?_
 obtain ⟨x,r,i,n,rfl,rx,lf,j1,j2,k⟩:=h
 have hr1:bH 1 _:=hr.mono (show 1≤4 by decide)
 refine ⟨_,(ak (gQ (pv 0) (cQ rfl (aM (aC (i:=3) Dc.nd rfl (.inl rfl)) (aM (aC (i:=4) Dc.nd rfl (.inl rfl)) (aM (aC (i:=5) Dc.nd rfl (.inl rfl)) cA)))))
  (aq (aD (cY (b_ DC GC hr (aa (pv 3) aj)) (cY (b_ DL GL hr1 (aa (pv 4) (aa (pv 1) (aa (pv 2) aj)))) (eV (b_ DL GL hr1 (aa (pv 5) (aa (pv 1) (aa (pv 2) aj)))))))))),?_⟩
 obtain ⟨a,x0,rfl,sq,r1⟩:=tZ rx
 refine ⟨_,rfl,a,_,rfl,sq,rfl,_,_,rfl,_,_,rfl,_,_,rfl,rfl,?_⟩
 refine ⟨_,rfl,x0,_,rfl,r1,lf,_,rfl,cL rfl ?_⟩
 refine ⟨_,rfl,_,rfl,_,rfl,r.2.1,i,n,rfl,j1,_,rfl,cL rfl ?_⟩
 exact ⟨_,rfl,_,rfl,_,rfl,r.2.2,i,n,rfl,j2,k⟩
def Gq (K:Frag):Sp:=fun vs H Q _=>∃ (p lw:Addr) (st:lW) (W:List uE),vs=[.ref p]/\jC K H p lw st W/\W.length≤100/\∀ H',az H H'->Q (.bl true) H'
theorem An:aN ["way","start","rows"] ["way"] (aA (top 52)):=by ext
theorem Ib (F:fK K "is_way" "is_way" (top 52) f fd) (T:Txt K mg) (hen:mg "enumerate" = none) (DR:cj K mg "is_row" (top 53) ["row","at","many"] fR fdR) (GR:aJ P w K mg base bB 5 fR fdR ["row","at","many"] (Mq K)):aJ P w K mg base bB 6 f fd ["way"] (Gq K):=by
 refine F.ok An (by ext) fun cdv A outer s H vs Q E hr h=>?_
 obtain ⟨p,lw,st,W,rfl,⟨hp,⟨ws,hl,rs⟩,wo⟩,wl,k⟩:=h
 refine ⟨_,(ak (gQ (pv 0) (cQ rfl (aM (aC (i:=1) An.nd rfl (.inl rfl)) (aM (aC (i:=2) An.nd rfl (.inr rfl)) cA))))
  (ak (aZ (aG bQ (aP bx (by rfl) T.len cM (aa (pv 2) aj)) au (aQ _)) (aq (aD (aP bY (by rfl) T.isinstance aV (aa (pv 1) (aa (dG rfl T.bool eY) aj))))) aK)
  (ak (aZ (PW.pt (nD (dO (aP bY (by rfl) T.isinstance aV (aa (pv 1) (aa (dG rfl T.bool eY) aj)))) (lK (aG j8 (pv 1) au (aQ _))))) (aq (aD pq)) aK)
  (aq (aD (aP (oF rfl) (by rfl) T.all Al (aa (fZ (g:=Ci K 2 (lM (bh 0) (lM (bh 1) Bt))) (own:=["at","row"]) (js:=[2]) (N':=["at","row","rows"]) (bw.of (osc:=aA (top 52)) (N:=["way","start","rows"]) rfl rfl (by ext)) rfl (sG rfl hen gh (aa (pv 2) aj)) (fun _ _ _ _ _=>(cQ rfl (aM (aC (i:=0) (show List.Nodup (["at","row","rows"]:List Str) by ext) rfl (.inl rfl) (.inr rfl)) (aM (aC (i:=1) (show List.Nodup (["at","row","rows"]:List Str) by ext) rfl (.inl rfl) (.inr rfl)) cA)))) (fun _ _ _ _ _=>cI) (fun _ _ _ _ _=>jh GR hr rfl DR.mg DR.F.kp DR.b .nil jE (aa (pv 1) (aa (pv 0) (aa (aP (r:=QG K) bx (by rfl) T.len cM (aa (pv 2) aj)) aj))))) aj))))))),?_⟩
 have xl:=rs.length
 rw [List.length_map] at xl
 refine ⟨_,rfl,p,_,rfl,bI.of hp,rfl,_,_,rfl,_,_,rfl,rfl,?_⟩
 refine ⟨_,rfl,lw,ws,rfl,.inl (bD.of hl),rfl,_,rfl,?_⟩
 rcases wo with ⟨b,rfl,rfl⟩|⟨rfl,pos,wok⟩
 ·cases rs
  exact cL rfl ⟨_,rfl,_,_,_,_,rfl,.bl b,rfl,k _ (az.refl _)⟩
 refine cg (by rw [jn,decide_eq_false_iff_not];omega) ?_
 refine ⟨_,rfl,_,_,_,_,rfl,.int _,rfl,_,rfl,cg rfl ⟨_,rfl,rfl,_,rfl,cg rfl ?_⟩⟩
 refine ⟨_,rfl,lw,rfl,⟨_,bD.of hl⟩,?_⟩
 refine uc (K:=K) (a:=lw) (xs:=ws) (fun i ys σ' H'=>(∃ u v,σ'=[u,v,some (.ref lw)])/\az H H'/\ys=(List.replicate i true).map V.bl) (Nat.le_trans (show _≤100 by omega) (by decide)) ⟨⟨none,none,rfl⟩,az.refl _,rfl⟩ (fun i ys σ' H' _ ⟨_,e,_⟩=>bD.of (e _ _ hl)) ?_ ?_
 ·rintro i x ys σ' H1 q hx hys ⟨⟨u,v,rfl⟩,s1,rfl⟩ hq N hN
  obtain ⟨d,hd,rx⟩:=rs.get' hx
  rw [List.getElem?_map] at hd
  obtain ⟨r,hr',rfl⟩:=Option.map_eq_some_iff.mp hd
  have jp:=wok.jp i r hr'
  rw [← xl] at jp
  have s2:=s1.trans (az.new (o:=.tup [.int (i:Nat),x]) hq)
  refine ⟨q,_,rfl,bI.of ao,rfl,_,_,rfl,_,_,rfl,rfl,?_⟩
  generalize upd H1 q (.tup [.int (i:Nat),x])=H2 at s2 ⊢
  refine ⟨_,rfl,_,rfl,_,rfl,lw,ws,rfl,.inl (bD.of (s2 _ _ hl)),x,r,i,ws.length,rfl,rx.same s2,wok.lf r (List.mem_of_getElem? hr'),jp.1,jp.2,?_⟩
  exact hN _ _ _ (by rw [List.length_append,hys];rfl) ⟨⟨_,_,rfl⟩,s2,by rw [List.replicate_succ',List.map_append];rfl⟩
 ·rintro ys σ' H1 hys ⟨_,s1,rfl⟩
  refine ⟨Nat.le_trans (show _≤100 by rw [hys];omega) (by decide),fun l hl'=>⟨l,List.replicate ws.length true,rfl,bD.of ao,?_⟩⟩
  have e:(List.replicate ws.length true).all id=true:=by simp
  show Q (.bl ((List.replicate ws.length true).all id)) _
  rw [e]
  exact k _ (s1.trans (az.new hl'))
theorem VP:aN ["way"] ["way"] (aA (top 56)):=by ext
def zM (K:Frag):Sp:=fun vs H Q _=>∃ (p lw:Addr) (st:lW) (W:List uE),vs=[.ref p]/\jC K H p lw st W/\W.length≤100/\∀ H',az H H'->Q .non H'
theorem Jp (F:fK K "need_way" "need_way" (top 56) f fd) (DI:cj K mg "is_way" (top 52) ["way"] fI fdI) (GI:aJ P w K mg base bB 6 fI fdI ["way"] (Gq K)):aJ P w K mg base bB 7 f fd ["way"] (zM K):=by
 refine F.ok VP (by ext) fun cdv A outer s H vs Q E hr h=>?_
 obtain ⟨p,lw,st,W,rfl,wa,wl,k⟩:=h
 refine ⟨_,(aq (aZ (gA (dO (b_ DI GI hr (aa (pv 0) aj)))) (aq cC) aK)),?_⟩
 exact ⟨_,rfl,p,lw,st,W,rfl,wa,wl,fun H' s1=>⟨_,rfl,cg rfl (k H' s1)⟩⟩
section
variable {P:Program} {w:World} {K:PySem.W.Frag} {mg:Str->Option Value} {base:Heap}
structure P_ (K:Frag) (C:Addr) (H:Hp) (p lw o a b:Addr) (st:lW) (W:List uE) (nm:Str) (fs:List gr) (zs:List Int) (v:Bool):Prop where
 wa:jC K H p lw st W
 wl:W.length≤100
 ka:dw C H o nm a fs
 fl:fs.length≤4
 hb:H b=some (.tup (zs.map V.int))
 ib:vJ zs fs
 wk:Wk (pI nm fs zs) W st v
def QQ (K:Frag) (C:Addr):Sp:=fun vs H Q _=>∃ p lw o a b st W nm fs zs v,vs=[.ref p,.ref o,.ref b]/\P_ K C H p lw o a b st W nm fs zs v/\∀ q n H',H' q=some (.tup [.bl v,.int n])->az H H'->Q (.ref q) H'
abbrev XH:List Str:=["way","kind","values","goal","rows","many","leaf","yes","no"]
theorem pO:aN XH ["way","kind","values"] (aA (top 62)):=by ext
theorem qX (h:vD st W) (hr:W[i]?=some r):zW r.1/\yt i W.length r.2.1/\yt i W.length r.2.2:=by
 rcases h with ⟨b,_,rfl⟩|⟨_,_,ok⟩
 ·simp at hr
 ·exact ⟨ok.lf r (List.mem_of_getElem? hr),ok.jp i r hr⟩
theorem Qz (F:fK K "walk" "walk" (top 62) f fd) (T:Txt K mg) (KC:KCls K mg C) (DN:cj K mg "need_way" (top 56) ["way"] fN fdN) (GN:aJ P w K mg base bB 7 fN fdN ["way"] (zM K))
 (MN:MD K C "need" "Kind.need" (kM 4) ["self","values"] fM fdM) (GM:aJ P w K mg base bB 1 fM fdM ["self","values"] (As C)) (DP:cj K mg "passes_leaf" (top 44) ["leaf","kind","values"] fP fdP) (GP:aJ P w K mg base bB 2 fP fdP ["leaf","kind","values"] (K9 K C)):aJ P w K mg base bB 8 f fd ["way","kind","values"] (QQ K C):=by
 refine F.ok pO (by ext) fun cdv A outer s H vs Q E hr h=>?_
 obtain ⟨p,lw,o,a,b,st,W,nm,fs,zs,v,rfl,⟨wa,wl,ka,fl,hb,ib,wk⟩,k⟩:=h
 have hr1:bH 1 _:=hr.mono (show 1≤7 by decide)
 have hr2:bH 2 _:=hr.mono (show 2≤7 by decide)
 refine ⟨_,(ak (bU (b_ DN GN hr (aa (pv 0) aj)))
  (ak (bU (qe (E:=E0) (pv 1) KC.cl MN.M GM hr1 MN.b .nil jE (aa (pv 2) aj)))
  (ak (gQ (pv 0) (cQ rfl (aM (aC (i:=3) pO.nd rfl (.inl rfl)) (aM (aC (i:=4) pO.nd rfl (.inl rfl)) cA))))
  (ak (aU (i:=5) pO.nd rfl (.inl rfl) au)
  (ak (qW PassesOwn.never (gA (dO (aP bY (by rfl) T.isinstance aV (aa (pv 3) (aa (dG rfl T.bool eY) aj)))))
   (ak (gQ (a_ d7 (pv 4) (pv 3) (fun _ _=>rfl)) (cQ rfl (aM (aC (i:=6) pO.nd rfl (.inl rfl)) (aM (aC (i:=7) pO.nd rfl (.inl rfl)) (aM (aC (i:=8) pO.nd rfl (.inl rfl)) cA)))))
   (ak (aU (i:=3) pO.nd rfl (.inl rfl) (fJ (dO (b_ DP GP hr2 (aa (pv 6) (aa (pv 1) (aa (pv 2) aj))))) (pv 7) (pv 8)))
   (aq (Av (i:=5) pO.nd rfl (.inl rfl) au v6)))))
  (aq (aD (bN (aa (pv 3) (aa (pv 5) aj)))))))))),?_⟩
 refine ⟨_,rfl,p,lw,st,W,rfl,wa,wl,fun H1 s1=>?_⟩
 have ka1:=ka.same s1
 obtain ⟨⟨dx,ho⟩,_⟩:=id ka1
 refine ⟨_,rfl,o,dx,_,rfl,ho,(pM nm a).2,_,rfl,o,a,b,nm,fs,zs,rfl,ka1,s1 _ _ hb,ib,fun H2 s2=>?_⟩
 have S2:=s1.trans s2
 obtain ⟨hp,⟨ws,hl,rs⟩,wo⟩:=wa
 refine ⟨_,rfl,p,_,rfl,bI.of (S2 _ _ hp),rfl,_,_,rfl,_,_,rfl,rfl,?_⟩
 dsimp only [bh,List.set,L2.start]
 refine qQ (fun σ' H'=>∃ (j:lW) (n:Int) (u1 u2 u3:Option V),σ'=[some (.ref p),some (.ref o),some (.ref b),some (jV j),some (.ref lw),some (.int n),u1,u2,u3]/\Wk (pI nm fs zs) W j v/\az H H') (fun σ' _=>match σ' with|[_,_,_,some (.int i),_,_,_,_,_]=>W.length-i.toNat+1|_=>0) ⟨st,0,none,none,none,rfl,wk,S2⟩ ?_ ?_
 ·rintro σ' H3 ⟨j,n,u1,u2,u3,rfl,wk3,s3⟩
  cases wk3 with
  | fin=>
    refine ⟨_,rfl,_,_,_,_,rfl,.bl v,rfl,_,rfl,cg rfl ?_⟩
    exact ⟨_,rfl,_,rfl,(by ext),fun q hq=>k q n _ ao (s3.trans (az.new hq))⟩
  | @row i r _ hir wk4=>
    obtain ⟨lf,j1,j2⟩:=qX wo hir
    have il:=(List.getElem?_eq_some_iff.mp hir).1
    refine ⟨_,rfl,_,_,_,_,rfl,.int _,rfl,_,rfl,cL rfl ?_⟩
    obtain ⟨x,hx,rx⟩:=(rs.same s3).get (i:=i) (d:=Hd r) (by rw [List.getElem?_map,hir];rfl)
    obtain ⟨c,x0,rfl,sq,r1⟩:=tZ rx
    refine ⟨_,rfl,_,rfl,lw,_,_,_,rfl,rfl,bD.of (s3 _ _ hl),aL hx,c,_,rfl,sq,rfl,_,_,rfl,_,_,rfl,_,_,rfl,rfl,?_⟩
    dsimp only [bh,List.set]
    obtain ⟨f',r',er,lf',na⟩:=lf
    rw [er] at r1
    cases r1 with
    |@tup q us _ sq' rs'=>
    refine ⟨_,rfl,_,rfl,_,rfl,q,o,a,b,f',nm,r',fs,zs,rfl,.tup sq' rs',lf',ka.same s3,fl,s3 _ _ hb,pP ib,fun H4 s4=>?_⟩
    have ep:pI nm fs zs r.1=gG nm fs zs f' r':=by rw [er];rfl
    rw [ep] at wk4
    have s5:=s3.trans s4
    have fin:∀ j':lW,Wk (pI nm fs zs) W j' v->yt i W.length j'->(∃ (j:lW) (n':Int) (u1 u2 u3:Option V),[some (.ref p),some (.ref o),some (.ref b),some (jV j'),some (.ref lw),some (.int (n+1)),some (.ref q),some (jV r.2.1),some (jV r.2.2)]=[some (.ref p),some (.ref o),some (.ref b),some (jV j),some (.ref lw),some (.int n'),u1,u2,u3]/\Wk (pI nm fs zs) W j v/\az H H4)/\(match [some (V.ref p),some (.ref o),some (.ref b),some (jV j'),some (.ref lw),some (.int (n+1)),some (.ref q),some (jV r.2.1),some (jV r.2.2)] with|[_,_,_,some (.int i),_,_,_,_,_]=>W.length-i.toNat+1|_=>0)<W.length-i+1:=fun j' w' jo=>by
     refine ⟨⟨j',_,_,_,_,rfl,w',s5⟩,?_⟩
     cases j' with
     |inl b'=>show 0<_;omega
     | inr m=>
       obtain ⟨h1,h2⟩:=(show i<m/\m<W.length from jo)
       show W.length-((m:Nat):Int).toNat+1<_
       omega
    cases hp':gG nm fs zs f' r' with
    | true=>
      rw [hp'] at wk4
      rw [if_pos rfl] at wk4
      exact ⟨_,rfl,cL rfl ⟨_,rfl,_,rfl,_,_,rfl,rfl,fin _ wk4 j1⟩⟩
    | false=>
      rw [hp'] at wk4
      rw [if_neg Bool.false_ne_true] at wk4
      exact ⟨_,rfl,cg rfl ⟨_,rfl,_,rfl,_,_,rfl,rfl,fin _ wk4 j2⟩⟩
 ·rintro σ' H' Q1 Q2 hQ ⟨v',e1,x,n,d,b',e2,rd,e3,y,e4,q⟩
  exact ⟨v',e1,x,n,d,b',e2,rd,e3,y,e4,hQ _ _ q⟩
def Gn (K:Frag) (C:Addr):Sp:=fun vs H Q _=>∃ p lw o a b st W nm fs zs v,vs=[.ref p,.ref o,.ref b]/\P_ K C H p lw o a b st W nm fs zs v/\∀ H',az H H'->Q (.bl v) H'
abbrev X3:List Str:=["way","kind","values","told","many"]
theorem JC:aN X3 ["way","kind","values"] (aA (top 61)):=by ext
theorem LC (F:fK K "run" "run" (top 61) f fd) (DW:cj K mg "walk" (top 62) ["way","kind","values"] fW fdW) (GW:aJ P w K mg base bB 8 fW fdW ["way","kind","values"] (QQ K C)):aJ P w K mg base bB 9 f fd ["way","kind","values"] (Gn K C):=by
 refine F.ok JC (by ext) fun cdv A outer s H vs Q E hr h=>?_
 obtain ⟨p,lw,o,a,b,st,W,nm,fs,zs,v,rfl,h,k⟩:=h
 refine ⟨_,(ak (gQ (b_ DW GW hr (aa (pv 0) (aa (pv 1) (aa (pv 2) aj)))) (cQ rfl (aM (aC (i:=3) JC.nd rfl (.inl rfl)) (aM (aC (i:=4) JC.nd rfl (.inl rfl)) cA))))
  (aq (aD (pv 3)))),?_⟩
 refine ⟨_,rfl,_,rfl,_,rfl,p,lw,o,a,b,st,W,nm,fs,zs,v,rfl,h,fun q n H1 hq s1=>?_⟩
 exact ⟨q,_,rfl,bI.of hq,rfl,_,_,rfl,_,_,rfl,rfl,_,rfl,k _ s1⟩
end
theorem Wk.one (h:Wk pz W j b) (h':Wk pz W j c):b=c:=by
 induction h with
 |fin=>cases h';rfl
 | row e _ ih=>
   cases h' with
   | row e' h'=>
     rw [e] at e'
     cases e'
     exact ih h'
def Jv (G:Nat->Nat):lW->Nat
 |.inl b=>if b=true then 1 else 0
 |.inr k=>G k
structure Q_ (W:List uE) (L:List Rw) (j:lW) (g:Nat):Prop where
 lt:g<L.length+2
 ev:∀ nm fs zs,∃ b,Wk (pI nm fs zs) W j b/\Ev (pI nm fs zs) L g b
theorem zp (h:∀ k,i<k->k<n->Q_ W L (.inr k) (G k)):∀ {j:lW},yt i n j->Q_ W L j (Jv G j)
 |.inl true,_=>⟨show 1<_ by omega,fun _ _ _=>⟨_,.fin,.yes⟩⟩
 |.inl false,_=>⟨show 0<_ by omega,fun _ _ _=>⟨_,.fin,.no⟩⟩
 |.inr k,jo=>h k jo.1 jo.2
section
variable {P:Program} {w:World} {K:PySem.W.Frag} {mg:Str->Option Value} {base:Heap}
def PQ:Sp:=fun vs H Q _=>∃ (j:lW) (qd:Addr) (kvs:List (Key×V)) (G:Nat->Nat),vs=[jV j,.ref qd]/\H qd=some (.dK kvs)/\(∀ k,j=.inr k->eO kvs (.inl (k:Nat))=some (.int (G k:Nat)))/\Q (.int (Jv G j:Nat)) H
theorem Vq:aN ["end","goals"] ["end","goals"] (aA (top 64)):=by ext
theorem Oh (F:fK K "goal_of" "goal_of" (top 64) f fd) (T:Txt K mg) (TW:zV mg):aJ P w K mg base bB 1 f fd ["end","goals"] PQ:=by
 refine F.ok Vq (by ext) fun cdv A outer s H vs Q E hr h=>?_
 obtain ⟨j,qd,kvs,G,rfl,hd,hk,k⟩:=h
 obtain ⟨t0,m0⟩:=TW.no
 obtain ⟨t1,m1⟩:=TW.yes
 have hu:=vy hr
 refine ⟨_,(ak (aZ (dO (aP bY (by rfl) T.isinstance aV (aa (pv 0) (aa (dG rfl T.bool eY) aj)))) (aq (aD (fJ (dO (pv 0)) (bj (v:=.int 1) rfl m1 ⟨_,rfl⟩) (bj (v:=.int 0) rfl m0 ⟨_,rfl⟩)))) aK)
  (aq (aD (cO hu (pv 1) (pv 0) (fun _ _=>rfl))))),?_⟩
 cases j with
 | inl b=>cases b with
   |true=>exact ⟨_,rfl,_,_,_,_,rfl,.bl true,rfl,_,rfl,cL rfl ⟨_,rfl,_,rfl,cL rfl k⟩⟩
   |false=>exact ⟨_,rfl,_,_,_,_,rfl,.bl false,rfl,_,rfl,cL rfl ⟨_,rfl,_,rfl,cg rfl k⟩⟩
 | inr n=>
   refine ⟨_,rfl,_,_,_,_,rfl,.int _,rfl,_,rfl,cg rfl ?_⟩
   have:=jz.k (k:=.inl (n:Nat)) hd
   rw [hk n rfl] at this
   exact ⟨_,rfl,_,rfl,qd,_,rfl,this,k⟩
def Ip (K:Frag):Sp:=fun vs H Q _=>∃ (p lw:Addr) (st:lW) (W:List uE),vs=[.ref p]/\jC K H p lw st W/\W.length≤100/\
 ∀ p' lw' st' W' H',jC K H' p' lw' st' W'->W'.length≤W.length->(∀ nm fs zs b,Wk (pI nm fs zs) W st b->Wk (pI nm fs zs) W' st' b)->az H H'->Q (.ref p') H'
abbrev Xo:List Str:=["way","start","rows","laid","goals","at","leaf","yes","no"]
theorem q9:aN Xo ["way"] (aA (top 63)):=by ext
structure Xx (K:Frag) (H H':Hp) (W:List uE) (l qd:Addr) (i:Nat) (L:List Rw) (kvs:List (Key×V)) (G:Nat->Nat):Prop where
 ld:xG K H' l L
 ok:v_ L
 ll:L.length≤i
 hd:H' qd=some (.dK kvs)
 kl:kvs.length≤i
 gt:∀ k,W.length≤k+i->k<W.length->eO kvs (.inl (k:Nat))=some (.int (G k:Nat))/\Q_ W L (.inr k) (G k)
 sm:az H H'
theorem Qh (F:fK K "shorter" "shorter" (top 63) f fd) (T:Txt K mg) (hrv:mg "reversed" = none) (DN:cj K mg "need_way" (top 56) ["way"] fN fdN) (GN:aJ P w K mg base bB 7 fN fdN ["way"] (zM K))
 (DG:cj K mg "goal_of" (top 64) ["end","goals"] fG fdG) (GG:aJ P w K mg base bB 1 fG fdG ["end","goals"] PQ) (DL:cj K mg "lay_row" (top 59) Mf fL fdL) (GL:aJ P w K mg base bB 1 fL fdL Mf (Hk K)) (DW:cj K mg "way_from" (top 60) ["goal","laid"] fW fdW) (GW:aJ P w K mg base bB 1 fW fdW ["goal","laid"] (JW K)) :
 aJ P w K mg base bB 8 f fd ["way"] (Ip K):=by
 refine F.ok q9 (by ext) fun cdv A outer s H vs Q E hr h=>?_
 obtain ⟨p,lw,st,W,rfl,wa,wl,k⟩:=h
 have hr1:bH 1 _:=hr.mono (show 1≤7 by decide)
 have hu:=vy hr
 refine ⟨_,(ak (bU (b_ DN GN hr (aa (pv 0) aj)))
  (ak (gQ (pv 0) (cQ rfl (aM (aC (i:=1) q9.nd rfl (.inl rfl)) (aM (aC (i:=2) q9.nd rfl (.inl rfl)) cA))))
  (ak (aU (i:=3) q9.nd rfl (.inl rfl) (bL aj))
  (ak (aU (i:=4) q9.nd rfl (.inl rfl) yR)
  (ak (dj PassesOwn.never rfl (Df rfl hrv rfl T.range (aa (aP bx (by rfl) T.len cM (aa (pv 2) aj)) aj)) (aC (i:=5) q9.nd rfl (.inl rfl))
   (ak (gQ (a_ d7 (pv 2) (pv 5) (fun _ _=>rfl)) (cQ rfl (aM (aC (i:=6) q9.nd rfl (.inl rfl)) (aM (aC (i:=7) q9.nd rfl (.inl rfl)) (aM (aC (i:=8) q9.nd rfl (.inl rfl)) cA)))))
   (aq (iM hu (pv 4) (pv 5) (b_ DL GL hr1 (aa (pv 6) (aa (b_ DG GG hr1 (aa (pv 7) (aa (pv 4) aj))) (aa (b_ DG GG hr1 (aa (pv 8) (aa (pv 4) aj))) (aa (pv 3) aj))))) rfl))))
  (aq (aD (b_ DW GW hr1 (aa (b_ DG GG hr1 (aa (pv 1) (aa (pv 4) aj))) (aa (pv 3) aj)))))))))),?_⟩
 refine ⟨_,rfl,p,lw,st,W,rfl,wa,wl,fun H1 s1=>?_⟩
 obtain ⟨hp,⟨ws,hl,rs⟩,wo⟩:=wa
 have xl:=rs.length
 rw [List.length_map] at xl
 refine ⟨_,rfl,p,_,rfl,bI.of (s1 _ _ hp),rfl,_,_,rfl,_,_,rfl,rfl,?_⟩
 refine ⟨(by ext),fun l hl0=>?_⟩
 refine fun qd hqd=>?_
 have hl1:H l=none:=dI s1 hl0
 have s2:=s1.trans ((az.new (o:=.lst []) hl0).trans (az.new (o:=.dK []) hqd))
 have hqd1:H qd=none:=dI (s1.trans (az.new (o:=.lst []) hl0)) hqd
 have nld:l≠qd:=aB ao hqd
 have el:upd (upd H1 l (.lst [])) qd (.dK []) l=some (.lst []):=(az.new hqd) _ _ ao
 have ed:upd (upd H1 l (.lst [])) qd (.dK []) qd=some (.dK []):=ao
 generalize upd (upd H1 l (.lst [])) qd (.dK [])=H2 at s2 el ed ⊢
 dsimp only [bh,List.set,L2.start]
 have big:1000≤sizeLine:=by decide
 refine ⟨_,rfl,lw,ws,rfl,.inl (bD.of (s2 _ _ hl)),(ws.length:Int),rfl,⟨by omega,by omega⟩,vQ (fun i σ H'=>∃ u5 u6 u7 u8 L kvs G,σ=[some (.ref p),some (jV st),some (.ref lw),some (.ref l),some (.ref qd),u5,u6,u7,u8]/\Xx K H H' W l qd i L kvs G) ⟨none,none,none,none,[],[],fun _=>0,rfl,⟨[],el,.nil⟩,⟨(fun _ h=>by cases h),fun i r h=>by simp at h⟩,Nat.le_refl _,ed,Nat.le_refl _,fun k h1 h2=>by omega,s2⟩ ?_ ?_⟩
 ·rintro i σ H3 hi ⟨u5,u6,u7,u8,L,kvs,G,rfl,I⟩
  have hi:i<W.length:=by omega
  have en:(ws.length:Int)-1-(i:Int)=((W.length-1-i:Nat):Int):=by omega
  rw [en]
  obtain ⟨r,hir⟩:∃ r,W[W.length-1-i]?=some r:=⟨W[W.length-1-i]'(by omega),List.getElem?_eq_getElem _⟩
  generalize hat:W.length-1-i=at_ at hir ⊢
  obtain ⟨lf,j1,j2⟩:=qX wo hir
  obtain ⟨x,hx,rx⟩:=(rs.same I.sm).get (i:=at_) (d:=Hd r) (by rw [List.getElem?_map,hir];rfl)
  obtain ⟨c,x0,rfl,sq,r1⟩:=tZ rx
  have vv:∀ {j:lW},yt at_ W.length j->∀ k,j=.inr k->eO kvs (.inl (k:Nat))=some (.int (G k:Nat)):=fun {j} jo k e=>by
   subst e
   have jo:at_<k/\k<W.length:=jo
   exact (I.gt k (by omega) jo.2).1
  have gg:∀ {j:lW},yt at_ W.length j->Q_ W L j (Jv G j):=zp fun k h1 h2=>(I.gt k (by omega) h2).2
  have g1:=gg j1
  have g2:=gg j2
  dsimp only [bh,List.set]
  refine ⟨_,rfl,_,rfl,lw,_,_,_,rfl,rfl,bD.of (I.sm _ _ hl),aL hx,c,_,rfl,sq,rfl,_,_,rfl,_,_,rfl,_,_,rfl,rfl,?_⟩
  dsimp only [bh,List.set]
  have il:=I.ll
  have ik:=I.kl
  refine ⟨_,rfl,_,rfl,_,rfl,r.2.1,qd,kvs,G,rfl,I.hd,vv j1,_,rfl,_,rfl,r.2.2,qd,kvs,G,rfl,I.hd,vv j2,_,rfl,x0,r.1,Jv G r.2.1,Jv G r.2.2,l,L,rfl,r1,lf,I.ld,I.ok,by omega,g1.lt,g2.lt,fun g L' H4 la ld b4=>?_⟩
  have ln:=la.len
  have hd4:H4 qd=some (.dK kvs):=b4 _ _ I.hd nld.symm
  have s4:az H H4:=fun b o e=>b4 _ _ (I.sm _ _ e) (aB e hl1)
  have pl:=e_ kvs (.inl (at_:Nat)) (.int (g:Nat))
  refine ⟨_,rfl,_,rfl,qd,_,rfl,nG.k (k:=.inl (at_:Nat)) hd4 (Nat.lt_of_lt_of_le (show _<1000 by omega) big),?_⟩
  have b5:cZ qd H4 (upd H4 qd (.dK (putK kvs (.inl (at_:Nat)) (.int (g:Nat))))):=cZ.upd
  refine ⟨_,_,_,_,L',_,fun k=>if k=at_ then g else G k,rfl,?_,la.ok,by omega,ao,by omega,fun k h1 h2=>?_,fun b o e=>by rw [aH (aB e hqd1)];exact s4 _ _ e⟩
  ·obtain ⟨ys,hy,ry⟩:=ld
   refine ⟨ys,by rw [aH nld];exact hy,xP.reps (fun a zs q=>?_) (uO la.ok) ry⟩
   rcases q with (q|⟨o,q⟩)|q
   ·exact .inl (.inl (b5 _ _ q (fc q hd4 (by intro z;cases z))))
   ·exact .inl (.inr ⟨o,b5 _ _ q (fc q hd4 (by intro z;cases z))⟩)
   ·exact .inr q
  ·rw [jX]
   by_cases e:k=at_
   ·subst e
    rw [if_pos rfl,if_pos rfl]
    refine ⟨rfl,la.lt,fun nm fs zs=>?_⟩
    obtain ⟨b1,w1,e1⟩:=g1.ev nm fs zs
    obtain ⟨b2,w2,e2⟩:=g2.ev nm fs zs
    refine ⟨_,.row hir ?_,la.ev nm fs zs _ _ e1 e2⟩
    cases pI nm fs zs r.1 with
    |true=>exact w1
    |false=>exact w2
   ·rw [if_neg (fun z=>e (mq.mp z)),if_neg e]
    obtain ⟨h3,h4⟩:=I.gt k (by omega) h2
    refine ⟨h3,Nat.lt_of_lt_of_le h4.lt (by omega),fun nm fs zs=>?_⟩
    obtain ⟨b,w1,e1⟩:=h4.ev nm fs zs
    exact ⟨b,w1,la.evs e1⟩
 ·rintro σ H3 ⟨u5,u6,u7,u8,L,kvs,G,rfl,I⟩
  have il:=I.ll
  have jst:(∃ b,st=.inl b)∨(st=.inr 0/\0<W.length):=by
   rcases wo with ⟨b,e,_⟩|⟨e,h,_⟩
   ·exact .inl ⟨b,e⟩
   ·exact .inr ⟨e,h⟩
  have gs:Q_ W L st (Jv G st)/\∀ k,st=.inr k->eO kvs (.inl (k:Nat))=some (.int (G k:Nat)):=by
   rcases jst with ⟨b,rfl⟩|⟨rfl,h⟩
   ·exact ⟨zp (i:=0) (n:=0) (G:=G) (fun k _ h=>by omega) (j:=.inl b) trivial,fun k e=>by cases e⟩
   ·have:=I.gt 0 (by omega) h
    exact ⟨this.2,fun k e=>by cases e;exact this.1⟩
  refine ⟨_,rfl,_,rfl,st,qd,kvs,G,rfl,I.hd,gs.2,_,rfl,Jv G st,l,L,rfl,I.ld,I.ok,by omega,gs.1.lt,fun p' lw' ws' st' W' H4 h1 h2 h3 wo' wl' we s4=>k p' lw' st' W' H4 ⟨h1,⟨ws',h2,h3⟩,wo'⟩ (by omega) (fun nm fs zs b wk=>?_) (I.sm.trans s4)⟩
  obtain ⟨b',w1,e1⟩:=gs.1.ev nm fs zs
  rw [wk.one w1]
  exact we _ _ e1
end
theorem dw.but (h:dw C H o n a fs) (D:Dr H p dc) (b:cZ p H H'):dw C H' o n a fs:=by
 obtain ⟨⟨dx,ho⟩,xs,ha,pf⟩:=h
 exact ⟨⟨dx,b _ _ ho (D.ne ho (by intro _ z;cases z))⟩,xs,b _ _ ha (D.ne ha (by intro _ z;cases z)),gf pf fun q ys e=>b _ _ e (D.ne e (by intro _ z;cases z))⟩
abbrev De:List Str:=["_law_script","_law_d","_law_title","_law_fields","_law_names","_law_sort","_law_one","_law_other","_law_rows","_law_field","_law_ways","_law_unlike","_law_values","_law_found","_law_due"]
def Xw (K:PySem.W.Frag):TG:=Ci K 2 (lM (bh 0) (lM (bh 1) Bt))
theorem fH:aN De ["_law_script"] (aA (top 80)):=by ext
theorem Pn (ha:H a=some (.tup xs)) (k:∀ p H',az H H'->H' p=some (.tup (jq xs lo hi))->Q (.ref p) H'):Np K (.ref a) lo hi H Q:=
 ⟨a,xs,rfl,bI.of ha,fun e=>k a H (az.refl _) (by rw [e];exact ha),fun p hp=>k p _ (az.new hp) ao⟩
theorem Ky (ha:H a=some (.tup xs)) (hb:H b=some (.tup ys)) (hl:xs.length+ys.length≤sizeLine) (k:∀ p H',az H H'->H' p=some (.tup (xs++ys))->Q (.ref p) H'):rB K (.ref a) (.ref b) H Q:=
 ⟨a,b,xs,ys,rfl,rfl,bI.of ha,bI.of hb,hl,fun e=>k b H (az.refl _) (by rw [e];exact hb),fun e=>k a H (az.refl _) (by rw [e,List.append_nil];exact ha),fun p hp=>k p _ (az.new hp) ao⟩
theorem Dh:∀ {xs:List V},xs.length≤3->jq xs none (some 2)=xs.take 2/\jq xs (some 2) none=xs.drop 2
 |[],_=>⟨rfl,rfl⟩
 |[_],_=>⟨rfl,rfl⟩
 |[_,_],_=>⟨rfl,rfl⟩
 |[_,_,_],_=>⟨rfl,rfl⟩
 |_::_::_::_::_,h=>by simp at h
def FA (H:Hp) (a:Addr) (fs:List gr):Prop:=∃ xs,H a=some (.tup xs)/\Paired (iV H) xs fs
theorem FA.tk (h:FA H a fs) (k:TK H H'):FA H' a fs:=let ⟨xs,h1,h2⟩:=h;⟨xs,k _ _ h1,gf h2 k⟩
theorem vz {α β:Type} {R:α->β->Prop}:∀ {xs:List α} {ys:List β} (n:Nat),Paired R xs ys->Paired R (xs.take n) (ys.take n)
 |_,_,0,_=>.nil
 |_,_,_+1,.nil=>.nil
 |_,_,n+1,.cons a t=>.cons a (vz n t)
theorem ints_rep:∀ c:List Int,bF K H (c.map V.int) (c.map PyData.int)
 |[]=>.nil
 |_::r=>.cons (.int _) (ints_rep r)
theorem jQ:∀ c:List Int,bK (c.map PyData.int)=0/\gY (c.map PyData.int)=0
 |[]=>⟨rfl,rfl⟩
 | _::r=>by
   have:=jQ r
   rw [List.map_cons]
   simp only [bK,cR,gY,gH]
   omega
def n_ (o:Option (List Int)):PyData:=match o with|none=>.none|some c=>.tuple (c.map .int)
theorem wN (h:∀ c,o=some c->c.length≤10):cR (n_ o)≤1/\gH (n_ o)≤100:=by
 cases o with
 |none=>exact ⟨by simp [n_,cR],by simp [n_,gH]⟩
 | some c=>
   have h1:=h c rfl
   have h2:=jQ c
   refine ⟨?_,?_⟩
   ·simp only [n_,cR,h2.1]
    omega
   ·simp only [n_,gH,h2.2,List.length_map]
    omega
theorem Az (rx:Rep K H x d) (ry:Rep K H y e) (td:ou d) (te:ou e) (ka:dw C H o nm a fs) (fl:fs.length≤4) (fo:∀ f∈fs,nC f)
 (k:∀ v H',az H H'->Rep K H' v (n_ ((gV (fs.map bW)).find? (dR nm fs d e)))->Q v H'):JF K C cT [x,y,.ref o] H Q E:=by
 refine ⟨x,y,o,a,d,e,nm,fs,rfl,rx,ry,td.td,te.td,ka,fl,fo,fun _ _=>⟨fun H' lt s=>k _ H' s ?_,fun c p H' lt hp s=>k _ H' s ?_⟩,fun h=>?_⟩
 ·rw [oZ (mK nm fs d e) lt]
  exact .non
 ·rw [oZ (mK nm fs d e) lt]
  exact .tup (bI.of hp) (ints_rep _)
 ·rcases h with h|h
  ·exact Bool.false_ne_true (h.symm.trans td.ok)
  ·exact Bool.false_ne_true (h.symm.trans te.ok)
theorem xg (t:Tr 5 d) (h1:bG d<13) (h2:aY d<4):ou (.tuple [.str "not",.tuple [.str "not",d]]):=by
 have t2:=t.one.one
 refine ⟨t2.td,?_⟩
 have e1:aY (.tuple [.str "not",.tuple [.str "not",d]])=1+max (1+max (aY d) 0) 0:=by
  show (if (arity "not").isSome=true then 1+max (if (arity "not").isSome=true then 1+max (aY d) 0 else 1) 0 else 1)=_
  rw [show arity "not" = some 1 from by ext];rfl
 have e2:bG (.tuple [.str "not",.tuple [.str "not",d]])=1+(1+(bG d+0)+0):=by
  show (if (arity "not").isSome=true then 1+((if (arity "not").isSome=true then 1+(bG d+0) else 1)+0) else 1)=_
  rw [show arity "not" = some 1 from by ext];rfl
 unfold cJ
 rw [t2.sh,e1,e2,decide_eq_true (show 1+max (1+max (aY d) 0) 0≤5 by omega),decide_eq_true (show 1+(1+(bG d+0)+0)≤15 by omega)]
 rfl
def sX (K:Frag) (H:Hp) (v:V) (d:PyData):Prop:=∃ p lw st W,v=.ref p/\jC K H p lw st W/\W.length≤100/\∀ nm fs zs,Wk (pI nm fs zs) W st (cF nm fs zs d)
theorem sX.same (h:sX K H v d) (s:az H H'):sX K H' v d:=by
 obtain ⟨p,lw,st,W,e,wa,wl,wk⟩:=h
 exact ⟨p,lw,st,W,e,wa.same s,wl,wk⟩
theorem uQ (rx:Rep K H x d) (t:ou d) (k:∀ v H',az H H'->sX K H' v d->Q v H'):Lg K cT [x] H Q E:=by
 have ll:=iI t.td t.sh t.de
 have p5:(2:Nat) ^ 5=32:=by decide
 exact ⟨x,d,rfl,rx,t.td,fun _ p lw st W H' wa wl wk s=>k _ H' s ⟨p,lw,st,W,rfl,wa,by omega,wk⟩,fun h=>Bool.false_ne_true (h.symm.trans t.ok)⟩
theorem FN (h:sX K H v d) (k:∀ v H',az H H'->sX K H' v d->Q v H'):Ip K [v] H Q E:=by
 obtain ⟨p,lw,st,W,rfl,wa,wl,wk⟩:=h
 exact ⟨p,lw,st,W,rfl,wa,wl,fun p' lw' st' W' H' wa' wl' we s=>k _ H' s ⟨p',lw',st',W',rfl,wa',by omega,fun nm fs zs=>we nm fs zs _ (wk nm fs zs)⟩⟩
theorem uZ (a b c d:V):ph none 2 [a,b,c,d]=[a,c]/\ph (some 1) 2 [a,b,c,d]=[b,d]:=⟨by kernel_rfl,by kernel_rfl⟩
def Bc (K:PySem.W.Frag):Sp:=fun vs H Q _=>∃ (a:Addr) (ns:List Int),vs=[.ref a]/\bD K H a (ns.map V.int)/\ns.length≤63/\∀ H',Q (.bl true) H'
theorem Jd {f fB fP fO fW fS fSf fTe fPa fDe fAp fMd fSh fR fHo fPd fTx fRt fKI C cT:Addr} {fd fdB fdP fdO fdW fdS fdSf fdTe fdPa fdDe fdAp fdMd fdSh fdR fdHo fdPd fdTx fdRt fdKI:FuncData} (F:fK K "law" "law" (top 80) f fd) (T:Txt K mg) (KC:KCls K mg C)
 (DB:cj K mg "_law_begin" (top 66) ["_law_script"] fB fdB) (DP:cj K mg "_law_pick" (top 67) ["_law_d","_law_many"] fP fdP) (DO:cj K mg "_law_of" (top 68) ["_law_d","_law_things"] fO fdO) (DW:cj K mg "_law_word" (top 70) ["_law_d"] fW fdW) (GW:aJ P w K mg base bB 3 fW fdW ["_law_d"] uC) (DS:cj K mg "_law_same" (top 69) ["_law_found","_law_due"] fS fdS)
 (DSf:cj K mg "_law_small_fields" (top 78) ["_law_d"] fSf fdSf) (GSf:aJ P w K mg base bB 5 fSf fdSf ["_law_d"] Nq)
 (DTe:cj K mg "_law_test" (top 77) ["_law_d","_law_names","_law_kinds"] fTe fdTe) (GTe:aJ P w K mg base bB 10 fTe fdTe ["_law_d","_law_names","_law_kinds"] (Ls K))
 (DPa:cj K mg "_law_parts" (top 75) ["_law_test_here"] fPa fdPa) (GPa:aJ P w K mg base bB 5 fPa fdPa ["_law_test_here"] (uN K bG 5)) (DDe:cj K mg "_law_deep" (top 76) ["_law_test_here"] fDe fdDe) (GDe:aJ P w K mg base bB 5 fDe fdDe ["_law_test_here"] (uN K aY 5))
 (DAp:cj K mg "_law_all_pairs" (top 79) ["_law_rows","_law_field"] fAp fdAp) (GAp:aJ P w K mg base bB 1 fAp fdAp ["_law_rows","_law_field"] (OJ K))
 (DMd:cj K mg "made" (top 57) ["test"] fMd fdMd) (GMd:aJ P w K mg base bB 12 fMd fdMd ["test"] (Lg K cT)) (DSh:cj K mg "shorter" (top 63) ["way"] fSh fdSh) (GSh:aJ P w K mg base bB 8 fSh fdSh ["way"] (Ip K))
 (DR:cj K mg "run" (top 61) ["way","kind","values"] fR fdR) (GR:aJ P w K mg base bB 9 fR fdR ["way","kind","values"] (Gn K C)) (DHo:cj K mg "holds" (top 42) ["test","kind","values"] fHo fdHo) (GHo:aJ P w K mg base bB 12 fHo fdHo ["test","kind","values"] (Oc K C))
 (DPd:cj K mg "parted" (top 45) ["one","other","kind"] fPd fdPd) (GPd:aJ P w K mg base bB 12 fPd fdPd ["one","other","kind"] (JF K C cT)) (DTx:cj K mg "test_text" (top 34) ["test"] fTx fdTx) (GTx:aJ P w K mg base bB 12 fTx fdTx ["test"] (Rz K cT)) (DRt:cj K mg "read_test" (top 36) ["text"] fRt fdRt) (GRt:aJ P w K mg base bB 17 fRt fdRt ["text"] (Qj K cT))
 (MkK:Mk K C fKI) (GKI:aJ P w K mg base bB 4 fKI fdKI ["self","name","fields"] (Aj C)) (bKI:Binds K fdKI ["self","name","fields"] []) :
 aJ P w K mg base bB 18 f fd ["_law_script"] (Bc K):=by
 have GB:aJ P w K mg base bB 1 fB fdB ["_law_script"] (uY K):=z_ DB.F T
 have GP:aJ P w K mg base bB 1 fP fdP ["_law_d","_law_many"] iG:=gM DP.F T
 have GO:aJ P w K mg base bB 2 fO fdO ["_law_d","_law_things"] (xW K):=qR DO.F T DP
 have GS:aJ P w K mg base bB 5 fS fdS ["_law_found","_law_due"] (spS K 5):=Ei DS T 5
 refine F.ok fH (by ext) fun cdv A outer s H vs Q E hr17 h=>?_
 obtain ⟨sa,ns,rfl,hS,hlen,k⟩:=h
 have hr1:bH 1 _:=hr17.mono (show 1≤17 by decide)
 have hr2:bH 2 _:=hr17.mono (show 2≤17 by decide)
 have hr3:bH 3 _:=hr17.mono (show 3≤17 by decide)
 have hr5:bH 5 _:=hr17.mono (show 5≤17 by decide)
 have hr8:bH 8 _:=hr17.mono (show 8≤17 by decide)
 have hr9:bH 9 _:=hr17.mono (show 9≤17 by decide)
 have hr10:bH 10 _:=hr17.mono (show 10≤17 by decide)
 have hr12:bH 12 _:=hr17.mono (show 12≤17 by decide)
 refine ⟨_,(ak (aU (i:=1) fH.nd rfl (.inl rfl) (b_ DB GB hr1 (aa (pv 0) aj)))
  (ak (aU (i:=2) fH.nd rfl (.inl rfl) (b_ DW GW hr3 (aa (pv 1) aj)))
  (ak (aU (i:=3) fH.nd rfl (.inl rfl) (cD iD (b_ DSf GSf hr5 (aa (pv 1) aj)) g8 (bV au)))
  (ak (aU (i:=4) fH.nd rfl (.inl rfl) (aX zB (fZ (g:=bh 0) (own:=["_law_field"]) (js:=[]) (N':=["_law_field"]) (bw.of (osc:=aA (top 80)) (N:=De) rfl rfl (by ext)) rfl (iK (pv 3)) (fun _ _ _ _ _=>(aC (i:=0) (show List.Nodup (["_law_field"]:List Str) by ext) rfl (.inl rfl) (.inr rfl))) (fun _ _ _ _ _=>cI) (fun _ _ _ _ _=>(a_ (r:=Hj K) bz (pv 0) au (fun _ _=>rfl)))) (bL (aa (b_ DW GW hr3 (aa (pv 1) aj)) aj))))
  (ak (aU (i:=5) fH.nd rfl (.inr rfl) (Dw (E:=E0) MkK GKI hr5 rfl KC.mg bKI .nil jE (aa (pv 2) (aa (pv 3) aj))))
  (ak (aU (i:=6) fH.nd rfl (.inl rfl) (b_ DTe GTe hr10 (aa (pv 1) (aa (pv 4) (aa (bL (aa (pv 2) (aa (a_ (r:=zq K) d7 (pv 4) (pF lJ au) (fun _ _=>rfl)) aj))) aj)))))
  (ak (aU (i:=7) fH.nd rfl (.inl rfl) (b_ DO GO hr2 (aa (pv 1) (aa (bL (aa (pv 6) (aa (b_ DTe GTe hr10 (aa (pv 1) (aa (pv 4) (aa (bL (aa (pv 2) (aa (a_ (r:=zq K) d7 (pv 4) (pF lJ au) (fun _ _=>rfl)) aj))) aj)))) aj))) aj))))
  (ak (aZ (PW.pt (jR (aG jH (b_ DPa GPa hr5 (aa (pv 6) aj)) au (aQ _)) (jR (aG jH (b_ DDe GDe hr5 (aa (pv 6) aj)) au (aQ _)) (jk (aG bQ (b_ DP GP hr1 (aa (pv 1) (aa au aj))) au (aQ _)))))) (aq (aU (i:=7) fH.nd rfl (.inl rfl) (bN (aa aO (aa (bN (aa aO (aa (pv 6) aj))) aj))))) aK)
  (ak (aU (i:=8) fH.nd rfl (.inl rfl) (bL (aa (bN aj) aj)))
  (ak (dj PassesOwn.never rfl (iK (pv 3)) (aC (i:=9) fH.nd rfl (.inl rfl)) (aq (iC (i:=8) (g:=Xw K) (own:=["_law_row","_law_number_here"]) (js:=[]) (N':=["_law_row","_law_number_here"]) (bw.of (osc:=aA (top 80)) (N:=De) rfl rfl (by ext)) rfl fH.nd rfl rfl (dM (b_ DAp GAp hr1 (aa (pv 8) (aa (pv 9) aj)))) (fun _ _ _ _ _=>(cQ rfl (aM (aC (i:=0) (show List.Nodup (["_law_row","_law_number_here"]:List Str) by ext) rfl (.inl rfl) (.inr rfl)) (aM (aC (i:=1) (show List.Nodup (["_law_row","_law_number_here"]:List Str) by ext) rfl (.inl rfl) (.inr rfl)) cA)))) (fun _ _ _ _ _=>cI) (fun _ _ _ _ _=>(aX (r:=rB K) pY (pv 0) (bN (aa (pv 1) aj)))))))
  (ak (aU (i:=10) fH.nd rfl (.inl rfl) (bL (aa (b_ DMd GMd hr12 (aa (pv 6) aj)) (aa (b_ DSh GSh hr8 (aa (b_ DMd GMd hr12 (aa (pv 6) aj)) aj)) (aa (b_ DMd GMd hr12 (aa (pv 7) aj)) (aa (b_ DSh GSh hr8 (aa (b_ DMd GMd hr12 (aa (b_ DRt GRt hr17 (aa (b_ DTx GTx hr12 (aa (pv 7) aj)) aj)) aj)) aj)) aj))))))
  (ak (aU (i:=11) fH.nd rfl (.inl rfl) (bL aj))
  (ak (dj PassesOwn.never rfl (dM (pv 8)) (aC (i:=12) fH.nd rfl (.inr rfl))
   (ak (iC (i:=13) (g:=bh 0) (own:=["_law_way"]) (js:=[5,12]) (N':=["_law_way","_law_sort","_law_values"]) (bw.of (osc:=aA (top 80)) (N:=De) rfl rfl (by ext)) rfl fH.nd rfl rfl (dM (pv 10)) (fun _ _ _ _ _=>(aC (i:=0) (show List.Nodup (["_law_way","_law_sort","_law_values"]:List Str) by ext) rfl (.inl rfl) (.inr rfl))) (fun _ _ _ _ _=>cI) (fun _ _ _ _ _=>(b_ DR GR hr9 (aa (pv 0) (aa (pv 1) (aa (pv 2) aj))))))
   (ak (aZ (gA (dO (b_ DS GS hr5 (aa (rJ (by decide) (pv 13) au (fun _ _=>rfl)) (aa (Bh (by decide) (pv 13) au au (fun _ _=>rfl)) aj))))) (aq cC) aK)
   (ak (aZ (gA (dO (b_ DS GS hr5 (aa (bL (aa (b_ DHo GHo hr12 (aa (pv 6) (aa (pv 5) (aa (pv 12) aj)))) (aa (b_ DHo GHo hr12 (aa (pv 7) (aa (pv 5) (aa (pv 12) aj)))) aj))) (aa (rJ (by decide) (pv 13) au (fun _ _=>rfl)) aj))))) (aq cC) aK)
   (aq (aZ (aG j8 (a_ d7 (pv 13) au (fun _ _=>rfl)) (a_ d7 (pv 13) au (fun _ _=>rfl)) (aQ _)) (aq (bU (gB PySem.F.plainAttrs_list PySem.F.slot_list_append PySem.F.type_list_append dJ (pv 11) (aa (pv 12) aj)))) aK))))))
  (ak (aU (i:=14) fH.nd rfl (.inl rfl) (fJ (aG (KY hr17.units) (pv 11) (bL aj) (aQ _)) (a_ d7 (pv 11) au (fun _ _=>rfl)) lG))
  (aq (aD (b_ DS GS hr5 (aa (bL (aa (b_ DPd GPd hr12 (aa (pv 6) (aa (pv 7) (aa (pv 5) aj)))) (aa (b_ DPd GPd hr12 (aa (pv 7) (aa (pv 6) (aa (pv 5) aj)))) aj))) (aa (bL (aa (pv 14) (aa (pv 14) aj))) aj))))))))))))))))))),?_⟩
 refine ⟨_,rfl,sa,ns,rfl,hS,hlen,fun p dc H1 D1 s0 _=>?_⟩
 dsimp only [bh,List.set,L2.start]
 refine ⟨_,rfl,p,dc,rfl,D1,fun nm H2 hnm D2 b2=>?_⟩
 dsimp only [bh,List.set]
 refine ⟨_,rfl,p,dc,rfl,D2,fun a0 xs0 fs0 H3 ha0 pf0 fl0 sm0 nd0 D3 b3=>?_⟩
 clear D1 D2 b2 b3
 have xl0:=Paired.length pf0
 obtain ⟨ct1,ct2⟩:=Dh (xs:=xs0) (by omega)
 refine ⟨2,rfl,Pn ha0 fun a H4 s4 ha=>?_⟩
 rw [ct1] at ha
 obtain ⟨fs,efs⟩:∃ fs,fs=fs0.take 2:=⟨_,rfl⟩
 have fa4:FA H4 a fs:=⟨_,ha,by rw [efs];exact gf (vz 2 pf0) s4.tkT⟩
 have fl:fs.length≤2:=by rw [efs,List.length_take];omega
 have sm:∀ f∈fs,Dv f:=fun f hf=>sm0 f (List.mem_of_mem_take (by rw [← efs];exact hf))
 have nd:(fs.map (·.1)).Nodup:=by rw [efs,List.map_take];exact nd0.sublist (List.take_sublist _ _)
 have D4:=D3.mono s4
 clear D3 pf0 ha0 ha efs ct1 ct2 s4
 dsimp only [bh,List.set]
 refine j0 (fun σ' H'=>∃ (ln:Addr) (ys:List Str),σ'=[some (.ref sa),some (.ref p),some (.str nm),some (.ref a),some (.ref ln),none,none,none,none,none,none,none,none,none,none]/\FA H' a fs/\H' ln=some (.lst (ys.map V.str))/\ys≠[]/\ys.length≤5/\(∀ y∈ys,Nm y)/\Dr H' p dc) ?nx2 fun N hN=>?st2
 case st2=>
  obtain ⟨xs,ha,pf⟩:=id fa4
  have pl:=Paired.length pf
  refine ⟨_,rfl,a,rfl,⟨xs,bI.of ha⟩,?_⟩
  refine i_ (K:=K) (a:=a) (xs:=xs) (fun i zs σ' H'=>(∃ v,σ'=[v])/\H'=H4/\zs=((fs.map (·.1)).take i).map V.str) (Nat.le_trans (show xs.length≤4 by omega) (by decide)) ⟨⟨none,rfl⟩,rfl,rfl⟩ (fun i zs σ' H' _ ⟨_,e,_⟩=>by rw [e];exact bI.of ha) ?_ ?_
  ·rintro i y zs σ' H5 hy hzs ⟨⟨v,rfl⟩,rfl,rfl⟩ N' hN
   obtain ⟨⟨fn,lo,hi⟩,hfi,b,rfl,hb⟩:=cH pf hy
   refine ⟨_,rfl,b,_,_,_,rfl,rfl,bI.of hb,aL (j:=0) rfl,?_⟩
   exact hN _ _ _ (by rw [List.length_append,hzs];rfl) ⟨⟨_,rfl⟩,rfl,by rw [List.take_add_one,List.getElem?_map,hfi];simp⟩
  ·rintro zs σ' H5 hzs ⟨⟨v,rfl⟩,rfl,rfl⟩
   rw [List.take_of_length_le (by rw [List.length_map];omega)]
   refine ⟨Nat.le_trans (show ((fs.map (·.1)).map V.str).length≤4 by rw [List.length_map,List.length_map];omega) (by decide),fun l hl=>?_⟩
   have s1:az H5 (upd H5 l (.lst ((fs.map (·.1)).map V.str))):=az.new hl
   have h1':(upd H5 l (.lst ((fs.map (·.1)).map V.str))) l=some (.lst ((fs.map (·.1)).map V.str)):=ao
   generalize upd H5 l (.lst ((fs.map (·.1)).map V.str))=H6 at s1 h1' ⊢
   have D6:=D4.mono s1
   refine ⟨_,rfl,p,dc,rfl,D6,fun w1 H7 hw1 D7 b7=>⟨(by ext),fun l2 hl2=>?_⟩⟩
   have h4:H7 l=some (.lst ((fs.map (·.1)).map V.str)):=b7 _ _ h1' (D6.ne h1' (by intro _ z;cases z))
   refine ⟨l,l2,_,_,rfl,rfl,az.new hl2 _ _ h4,ao,?_,fun l3 hl3=>?_⟩
   ·have big:1000≤sizeLine:=by decide
    rw [List.length_map,List.length_map,List.length_singleton]
    omega
   ·have s9:=(az.new (o:=.lst [.str w1]) hl2).trans (az.new (o:=.lst ((fs.map (·.1)).map V.str++[.str w1])) hl3)
    have b9:cZ p H5 (upd (upd H7 l2 (.lst [.str w1])) l3 (.lst ((fs.map (·.1)).map V.str++[.str w1]))):=(s1.but.trans b7).trans s9.but
    refine hN _ _ ⟨l3,fs.map (·.1)++[w1],rfl,fa4.tk (TK.but D4 b9),?_,by simp,by rw [List.length_append,List.length_map,List.length_singleton];omega,fun y m=>?_,(D7.new hl2).new hl3⟩
    ·rw [ao,List.map_append];rfl
    ·rcases List.mem_append.mp m with m|m
     ·obtain ⟨f1,m1,rfl⟩:=List.mem_map.mp m
      exact (sm f1 m1).nm
     ·rw [List.mem_singleton.mp m];exact hw1
 rintro σ' H5 ⟨ln,ys,rfl,fa5,hln5,yne,yl,ynm,D5⟩
 clear D4 fa4
 have fl4:fs.length≤4:=by omega
 have fo:∀ f∈fs,nC f:=fun f hf=>(sm f hf).ok
 obtain ⟨xsf,haf,pff⟩:=id fa5
 refine ⟨_,rfl,_,rfl,fun o dx ho hdx ndx=>?_⟩
 have s15:az H5 (upd (upd H5 dx (.own o)) o (.ins C dx [])):=fun b u e=>by
  rw [aH (aB e ho),aH (aB e hdx)];exact e
 refine ⟨o,dx,a,nm,xsf,fs,rfl,ao,hnm,s15 _ _ haf,gf pff s15.tkT,fl4,fo,nd,fun H6 ka6 kp=>⟨rfl,?_⟩⟩
 have S6:az H5 H6:=fun b u e=>kp b u (s15 _ _ e) (aB e ho)
 have fa6:=fa5.tk S6.tkT
 have hln6:=S6 _ _ hln5
 have D6:=D5.mono S6
 clear kp s15 S6 D5 fa5 hln5 ho hdx ndx haf pff xsf
 dsimp only [bh,List.set]
 have tst:∀ {H':Hp} (R:V->Hp->Prop),Dr H' p dc->H' ln=some (.lst (ys.map V.str))->(∀ x d H'',Rep K H'' x d->Tr 5 d->cJ d=true->Dr H'' p dc->cZ p H' H''->R x H'')->∀ (l1:Addr),H' l1=none->Ls K [.ref p,.ref ln,.ref l1] (upd H' l1 (.lst [.str nm,.str (ys.getLast yne)])) R E0:=fun R D' hn kk l1 hl1=>by
  refine ⟨p,dc,ln,l1,ys,[nm,ys.getLast yne],rfl,D'.new hl1,bD.of (az.new hl1 _ _ hn),bD.of ao,yne,by simp,by omega,by simp,ynm,?_,fun x d H'' rx tx tb D'' b''=>kk x d H'' rx tx tb D'' ((cZ.new hl1).trans b'')⟩
  intro y hy
  simp at hy
  rcases hy with rfl|rfl
  ·exact hnm
  ·exact ynm _ (List.getLast_mem yne)
 have lastV:qJ (ys.map V.str) (-1)=some (.str (ys.getLast yne)):=by
  have hl:0<ys.length:=List.length_pos_iff.mpr yne
  unfold qJ J9
  rw [if_neg (by decide),if_pos (by rw [List.length_map];omega)]
  have e:(-1+((ys.map V.str).length:Int)).toNat=ys.length-1:=by rw [List.length_map];omega
  show (ys.map V.str)[(-1+((ys.map V.str).length:Int)).toNat]?=_
  rw [e,List.getElem?_map,List.getElem?_eq_getElem (by omega),List.getLast_eq_getElem]
  rfl
 refine ⟨_,rfl,_,rfl,_,rfl,_,rfl,_,rfl,ln,_,_,_,rfl,rfl,bD.of hln6,lastV,(by ext),fun l1 hl1=>tst _ D6 hln6 (fun x1 d1 H7 rx1 tx1 ok1 D7 b7=>?_) l1 hl1⟩
 have fa7:=fa6.tk (TK.but D6 b7)
 have hln7:H7 ln=some (.lst (ys.map V.str)):=b7 _ _ hln6 (D6.ne hln6 (by intro _ z;cases z))
 have ka7:=ka6.but D6 b7
 clear b7 fa6 D6 hln6 hl1 ka6
 dsimp only [bh,List.set]
 refine ⟨_,rfl,_,rfl,_,rfl,_,rfl,_,rfl,_,rfl,_,rfl,ln,_,_,_,rfl,rfl,bD.of hln7,lastV,(by ext),fun l1 hl1=>tst _ D7 hln7 (fun x2 d2 H8 rx2 tx2 ok2 D8 b8=>⟨(by ext),fun lo hlo=>⟨p,dc,lo,_,rfl,D8.new hlo,bD.of ao,by simp,by simp,fun x H9 hx D9 b9=>?_⟩⟩) l1 hl1⟩
 have b79:cZ p H7 H9:=(b8.trans (cZ.new hlo)).trans b9
 obtain ⟨dy,ry,ty⟩:∃ dy,Rep K H9 x dy/\ou dy:=by
  simp only [List.mem_cons,List.not_mem_nil,or_false] at hx
  rcases hx with rfl|rfl
  ·exact ⟨d1,D7.rep b79 rx1,tx1.td,ok1⟩
  ·exact ⟨d2,(D8.new hlo).rep b9 (rx2.same (az.new hlo)),tx2.td,ok2⟩
 have rx1:=D7.rep b79 rx1
 have fa9:=fa7.tk (TK.but D7 b79)
 have ka9:=ka7.but D7 b79
 clear b79 b8 b9 fa7 ka7 D7 D8 hln7 hl1 hlo rx2 tx2 ok2 hx tst lastV
 obtain ⟨sh1,de1,pa1⟩:=eQ ok1
 dsimp only [bh,List.set]
 refine j0 (fun σ' H'=>∃ (x2:V) (d2:PyData),σ'=[some (.ref sa),some (.ref p),some (.str nm),some (.ref a),some (.ref ln),some (.ref o),some x1,some x2,none,none,none,none,none,none,none]/\Rep K H' x1 d1/\Rep K H' x2 d2/\ou d2/\FA H' a fs/\dw C H' o nm a fs) ?nx3 fun N hN=>?st3
 case st3=>
  refine ⟨_,rfl,x1,d1,rfl,rx1,tx1.td,sh1,de1,by decide,fun H10 s10=>⟨_,_,rfl,rfl,_,rfl,gD (fun h1=>?_) (fun h1=>?_)⟩⟩
  ·refine ⟨_,rfl,x1,d1,rfl,rx1.same s10,tx1.td,sh1,de1,by decide,fun H11 s11=>⟨_,_,rfl,rfl,_,rfl,gD (fun h2=>?_) (fun h2=>?_)⟩⟩
   ·have S11:=s10.trans s11
    have D11:=D9.mono S11
    refine ⟨_,rfl,p,dc,_,rfl,D11,by decide,by decide,fun m H12 m0 m1 D12 b12=>⟨rfl,_,rfl,?_⟩⟩
    have fa12:=(fa9.tk S11.tkT).tk (TK.but D11 b12)
    have ka12:=(ka9.same S11).but D11 b12
    have rx12:=D11.rep b12 (rx1.same S11)
    refine gD (fun h3=>?_) (fun h3=>hN _ _ ⟨x,dy,rfl,rx12,D11.rep b12 (ry.same S11),ty,fa12,ka12⟩)
    have h1:bG d1<13:=by simp at h1;omega
    have h2:aY d1<4:=by simp at h2;omega
    refine ⟨_,rfl,(by ext),fun t1 ht1=>⟨(by ext),fun t2 ht2=>?_⟩⟩
    have s13:=az.new (o:=.tup [.str "not",x1]) ht1
    have s14:=az.new (o:=.tup [.str "not",.ref t1]) ht2
    have S14:=s13.trans s14
    exact hN _ _ ⟨.ref t2,_,rfl,rx12.same S14,.tup (bI.of ao) (.cons (.str _) (.cons (.tup (bI.of (s14 _ _ ao)) (.cons (.str _) (.cons (rx12.same S14) .nil))) .nil)),xg tx1 h1 h2,fa12.tk S14.tkT,ka12.same S14⟩
   ·exact hN _ _ ⟨x,dy,rfl,rx1.same (s10.trans s11),ry.same (s10.trans s11),ty,fa9.tk (s10.trans s11).tkT,ka9.same (s10.trans s11)⟩
  ·exact hN _ _ ⟨x,dy,rfl,rx1.same s10,ry.same s10,ty,fa9.tk s10.tkT,ka9.same s10⟩
 rintro σ' H10 ⟨x2,d2,rfl,rx1,rx2,t2,fa10,ka10⟩
 have t1:ou d1:=⟨tx1.td,ok1⟩
 clear fa9 ka9 ry ty D9 ok1 sh1 de1 pa1 tx1
 obtain ⟨xsf,haf,pff⟩:=id fa10
 refine ⟨(by ext),fun p0 hp0=>⟨(by ext),fun r0 hr0=>?_⟩⟩
 have S13:=(az.new (o:=.tup []) hp0).trans (az.new (o:=.lst [.ref p0]) hr0)
 have e13:upd (upd H10 p0 (.tup [])) r0 (.lst [.ref p0]) r0=some (.lst [.ref p0]):=ao
 have e13':upd (upd H10 p0 (.tup [])) r0 (.lst [.ref p0]) p0=some (.tup []):=az.new hr0 _ _ ao
 generalize upd (upd H10 p0 (.tup [])) r0 (.lst [.ref p0])=H13 at S13 e13 e13' ⊢
 dsimp only [bh,List.set]
 refine j0 (fun σ' H'=>∃ (r:Addr) (ys:List V) (v9:Option V),σ'=[some (.ref sa),some (.ref p),some (.str nm),some (.ref a),some (.ref ln),some (.ref o),some x1,some x2,some (.ref r),v9,none,none,none,none,none]/\az H10 H'/\H' r=some (.lst ys)/\Paired (gW H') ys (gV (fs.map bW))) ?nx7 fun N3 hN3=>?st7
 case st7=>
  have wl:=Paired.length pff
  refine ⟨_,rfl,a,rfl,⟨_,bI.of (S13 _ _ haf)⟩,m6 (K:=K) (a:=a) (xs:=xsf) (fun j σ' H'=>∃ (r:Addr) (ys:List V) (v9:Option V),σ'=[some (.ref sa),some (.ref p),some (.str nm),some (.ref a),some (.ref ln),some (.ref o),some x1,some x2,some (.ref r),v9,none,none,none,none,none]/\az H10 H'/\H' r=some (.lst ys)/\Paired (gW H') ys (gV ((fs.take j).map bW))) ⟨r0,_,_,rfl,S13,e13,.cons ⟨p0,rfl,e13'⟩ .nil⟩ (fun j σ H' _ ⟨_,_,_,_,e,_⟩=>bI.of (e _ _ haf)) ?_ ?_⟩
  ·rintro j y σ' H14 hj ⟨r,ys',v9',rfl,s14,hr14,py⟩
   obtain ⟨g,hg,b,rfl,hb⟩:=cH pff hj
   have mg':=List.mem_of_getElem? hg
   have jl:j<fs.length:=(List.getElem?_eq_some_iff.mp hg).1
   have fw:(gV ((fs.take j).map bW)).length≤81:=by
    have h1:=vR (fs:=fs.take j) (fun f hf=>sm f (List.mem_of_mem_take hf)) _ (Nat.le_refl _)
    have h2:(fs.take j).length≤2:=by rw [List.length_take];omega
    exact Nat.le_trans h1 (Nat.pow_le_pow_right (by decide) h2)
   dsimp only [bh,List.set]
   refine ⟨_,rfl,_,rfl,r,.ref b,ys',gV ((fs.take j).map bW),g,rfl,hr14,py,⟨b,rfl,s14 _ _ hb⟩,sm g mg',by omega,fun l zs H15 hl15 pz s15=>⟨l,rfl,⟨_,bD.of hl15⟩,?_⟩⟩
   have zl:=Paired.length pz
   have zb:zs.length≤729:=by
    rw [zl,← List.length_map (f:=fun x:List Int×Int=>x.1++[x.2]),vH,kY]
    exact Nat.mul_le_mul fw (nA (sm g mg'))
   refine jf (K:=K) (a:=l) (xs:=zs) (fun m ws σ' H'=>(∃ u v,σ'=[u,v])/\az H15 H'/\Paired (gW H') ws (((nQ (gV ((fs.take j).map bW)) (bW g)).take m).map fun x=>x.1++[x.2])) (Nat.le_trans zb (by decide)) ⟨⟨none,none,rfl⟩,az.refl _,.nil⟩ (fun m ws σ H' _ z=>bD.of (z.2.1 _ _ hl15)) ?_ ?_
   ·rintro m z ws σ' H16 hm hw ⟨⟨u,v,rfl⟩,s16,pw2⟩ M hM
    obtain ⟨x,hx,p',b',rfl,hp',hb'⟩:=cH pz hm
    have mx:=List.mem_of_getElem? hx
    have x1l:x.1.length≤10:=by
     obtain ⟨r',hr',hv⟩:=List.mem_flatMap.mp mx
     obtain ⟨v',_,rfl⟩:=List.mem_map.mp hv
     have:=Paired.length (gO.mp hr')
     rw [List.length_map,List.length_take] at this
     dsimp only
     omega
    refine ⟨p',_,rfl,bI.of (s16 _ _ hp'),rfl,_,_,rfl,_,_,rfl,rfl,?_⟩
    dsimp only [bh,List.set]
    refine ⟨_,rfl,_,rfl,(by ext),fun p3 hp3=>?_⟩
    have t3:=az.new (o:=.tup [.int x.2]) hp3
    refine Ky (t3 _ _ (s16 _ _ hb')) ao ?_ fun p4 H17 s17 hp4=>hM _ _ _ (by rw [List.length_append,hw];rfl) ⟨⟨_,_,rfl⟩,(s16.trans t3).trans s17,?_⟩
    ·rw [List.length_map]
     exact Nat.le_trans (show x.1.length+1≤11 by omega) (by decide)
    ·rw [List.take_add_one,hx,List.map_append]
     refine Paired.snoc2 ⟨p4,rfl,?_⟩ (eZ (t3.trans s17).tkT pw2)
     rw [hp4]
     simp
   ·rintro ws σ' H16 hw ⟨_,s16,pw2⟩
    rw [zl,List.take_length,vH] at pw2
    refine ⟨by rw [hw];exact Nat.le_trans zb (by decide),fun r' hr'=>?_⟩
    have s17:=az.new (o:=.lst ws) hr'
    refine ⟨r',ws,_,rfl,((s14.trans s15).trans s16).trans s17,ao,?_⟩
    rw [List.take_add_one,hg,List.map_append]
    show Paired (gW _) ws (gV ((fs.take j).map bW++[bW g]))
    rw [nP]
    exact eZ s17.tkT pw2
  ·rintro σ' H14 ⟨r,ys',v9',rfl,s14,hr14,py⟩
   rw [wl,List.take_length] at py
   exact hN3 _ _ ⟨r,ys',v9',rfl,s14,hr14,py⟩
 rintro σ' H14 ⟨r,yr,v9,rfl,s14,hr14,py⟩
 have yl14:=Paired.length py
 have few:(gV (fs.map bW)).length≤81:=by
  have h1:=vR sm _ (Nat.le_refl _)
  exact Nat.le_trans h1 (Nat.pow_le_pow_right (by decide) fl)
 have rx1:=rx1.same s14
 have rx2:=rx2.same s14
 have ka14:=ka10.same s14
 clear s14 fa10 ka10 S13 e13 e13' hp0 hr0 haf pff xsf
 have q2:=eQ t2.ok
 refine ⟨_,rfl,?_⟩
 try dsimp only [oE]
 refine uQ rx1 t1 fun w1 G1 g1 W1=>?_
 refine ⟨_,rfl,?_⟩
 try dsimp only [oE]
 refine uQ (rx1.same g1) t1 fun w2' G2' g2' W2'=>?_
 try dsimp only [oE]
 refine FN W2' fun w2 G2 g2 W2=>?_
 refine ⟨_,rfl,?_⟩
 try dsimp only [oE]
 refine uQ (rx2.same (g1.trans (g2'.trans g2))) t2 fun w3 G3 g3 W3=>?_
 have S3:=(g1.trans (g2'.trans g2)).trans g3
 refine ⟨_,rfl,x2,d2,rfl,rx2.same S3,t2.td,fun _ G4 g4=>?_,fun h=>Bool.false_ne_true (h.symm.trans t2.ok)⟩
 refine ⟨d2,rfl,t2.td,q2.1,Nat.le_trans q2.2.1 (by decide),fun _ y5 G5 g5 ry5=>?_,fun h=>Bool.false_ne_true (h.symm.trans t2.ok)⟩
 try dsimp only [oE]
 refine uQ ry5 t2 fun w4' G6 g6 W4'=>?_
 try dsimp only [oE]
 refine FN W4' fun w4 G7 g7 W4=>?_
 refine ⟨(by ext),fun lw hlw=>?_⟩
 have S7:=g4.trans (g5.trans (g6.trans (g7.trans (az.new (o:=.lst [w1,w2,w3,w4]) hlw))))
 have elw:upd G7 lw (.lst [w1,w2,w3,w4]) lw=some (.lst [w1,w2,w3,w4]):=ao
 have W1:=W1.same ((g2'.trans g2).trans (g3.trans S7))
 have W2:=W2.same (g3.trans S7)
 have W3:=W3.same S7
 have W4:=W4.same (az.new (o:=.lst [w1,w2,w3,w4]) hlw)
 have S8:=S3.trans S7
 generalize upd G7 lw (.lst [w1,w2,w3,w4])=H15 at S7 S8 elw W1 W2 W3 W4 ⊢
 have rx1:=rx1.same S8
 have rx2:=rx2.same S8
 have ka15:=ka14.same S8
 have hr15:=S8 _ _ hr14
 have py:=eZ S8.tkT py
 clear S3 S7 S8 g1 g2' g2 g3 g4 g5 g6 g7 hlw ry5 W2' W4' ka14 hr14 q2
 dsimp only [bh,List.set]
 refine ⟨(by ext),fun qu hqu=>?_⟩
 have s16:az H15 (upd H15 qu (.lst [])):=az.new hqu
 have e16:upd H15 qu (.lst []) qu=some (.lst []):=ao
 generalize upd H15 qu (.lst [])=H16 at s16 e16 ⊢
 dsimp only [bh,List.set]
 refine j0 (fun σ' H'=>∃ (us:List V) (v12 v13:Option V),σ'=[some (.ref sa),some (.ref p),some (.str nm),some (.ref a),some (.ref ln),some (.ref o),some x1,some x2,some (.ref r),v9,some (.ref lw),some (.ref qu),v12,v13,none]/\az H15 H'/\H' qu=some (.lst us)/\Paired (gW H') us ((gV (fs.map bW)).filter (dR nm fs d1 d2))) ?nx8 fun N4 hN4=>?st8
 case st8=>
  refine ⟨_,rfl,r,rfl,⟨_,bD.of (s16 _ _ hr15)⟩,ii (K:=K) (a:=r) (xs:=yr) (fun j σ' H'=>∃ (us:List V) (v12 v13:Option V),σ'=[some (.ref sa),some (.ref p),some (.str nm),some (.ref a),some (.ref ln),some (.ref o),some x1,some x2,some (.ref r),v9,some (.ref lw),some (.ref qu),v12,v13,none]/\az H15 H'/\H' qu=some (.lst us)/\Paired (gW H') us (((gV (fs.map bW)).take j).filter (dR nm fs d1 d2))) ⟨[],_,_,rfl,s16,e16,.nil⟩ (fun j σ H' _ ⟨_,_,_,_,z,_⟩=>bD.of (z _ _ hr15)) ?_ ?_⟩
  ·rintro j y σ' H17 hj ⟨us,v12,v13,rfl,s17,hu17,pu⟩
   obtain ⟨zs,hzs,b,rfl,hb⟩:=cH py hj
   have mz:=List.mem_of_getElem? hzs
   have ib:vJ zs fs:=jY.mp (gO.mp mz)
   have jl:j<yr.length:=(List.getElem?_eq_some_iff.mp hj).1
   dsimp only [bh,List.set]
   refine j0 (fun σ' H'=>∃ (lf:Addr),σ'=[some (.ref sa),some (.ref p),some (.str nm),some (.ref a),some (.ref ln),some (.ref o),some x1,some x2,some (.ref r),v9,some (.ref lw),some (.ref qu),some (.ref b),some (.ref lf),none]/\az H17 H'/\H' lf=some (.lst [.bl (cF nm fs zs d1),.bl (cF nm fs zs d1),.bl (cF nm fs zs d2),.bl (cF nm fs zs d2)])) ?nx9 fun N5 hN5=>?st9
   case st9=>
    refine ⟨_,rfl,lw,rfl,⟨_,bD.of (s17 _ _ elw)⟩,?_⟩
    refine jf (K:=K) (a:=lw) (xs:=[w1,w2,w3,w4]) (fun m ws σ' H'=>(∃ u,σ'=[u,some (.ref o),some (.ref b)])/\az H17 H'/\ws=[V.bl (cF nm fs zs d1),.bl (cF nm fs zs d1),.bl (cF nm fs zs d2),.bl (cF nm fs zs d2)].take m) (by ext) ⟨⟨none,rfl⟩,az.refl _,rfl⟩ (fun m ws σ H' _ z=>bD.of (z.2.1 _ _ (s17 _ _ elw))) ?_ ?_
    ·rintro m z ws σ' H18 hm hw ⟨⟨u,rfl⟩,s18,rfl⟩ M hM
     have S18:=s17.trans s18
     obtain ⟨d,wy,et⟩:∃ d,sX K H15 z d/\[V.bl (cF nm fs zs d1),.bl (cF nm fs zs d1),.bl (cF nm fs zs d2),.bl (cF nm fs zs d2)].take (m+1)=[V.bl (cF nm fs zs d1),.bl (cF nm fs zs d1),.bl (cF nm fs zs d2),.bl (cF nm fs zs d2)].take m++[.bl (cF nm fs zs d)]:=by
      match m,hm with
      |0,hm=>cases (show w1=z by simpa using hm);exact ⟨d1,W1,rfl⟩
      |1,hm=>cases (show w2=z by simpa using hm);exact ⟨d1,W2,rfl⟩
      |2,hm=>cases (show w3=z by simpa using hm);exact ⟨d2,W3,rfl⟩
      |3,hm=>cases (show w4=z by simpa using hm);exact ⟨d2,W4,rfl⟩
      |m+4,hm=>simp at hm
     obtain ⟨pw,lw',st,W,rfl,wa,wl,wk⟩:=wy
     dsimp only [bh,List.set]
     exact ⟨_,rfl,_,rfl,_,rfl,pw,lw',o,a,b,st,W,nm,fs,zs,_,rfl,⟨wa.same S18,wl,ka15.same S18,fl4,S18 _ _ hb,ib,wk nm fs zs⟩,fun H19 s19=>hM _ _ _ (by rw [List.length_append,hw];rfl) ⟨⟨_,rfl⟩,s18.trans s19,et.symm⟩⟩
    ·rintro ws σ' H18 hw ⟨_,s18,rfl⟩
     exact ⟨by show 4≤sizeLine;decide,fun lf hlf=>hN5 _ _ ⟨lf,rfl,s18.trans (az.new hlf),ao⟩⟩
   rintro σ' H18 ⟨lf,rfl,s18,hlf⟩
   have S18:=s17.trans s18
   generalize hb1:cF nm fs zs d1=b1 at hlf
   generalize hb2:cF nm fs zs d2=b2 at hlf
   have sml:cR (.list [.bool b1,.bool b2])≤4/\gH (.list [.bool b1,.bool b2])≤100000:=⟨by simp [cR,bK],by simp [gH,gY]⟩
   refine ⟨_,rfl,lf,_,rfl,bD.of hlf,fun f1 hf1=>⟨_,rfl,lf,_,rfl,bD.of (az.new hf1 _ _ hlf),fun f2 hf2=>?_⟩⟩
   rw [(uZ _ _ _ _).1] at hf2
   rw [(uZ _ _ _ _).1,(uZ _ _ _ _).2]
   refine ⟨.ref f1,.ref f2,.list [.bool b1,.bool b2],rfl,.lst (bD.of (az.new hf2 _ _ ao)) (.cons (.bl _) (.cons (.bl _) .nil)),.lst (bD.of ao) (.cons (.bl _) (.cons (.bl _) .nil)),sml.1,sml.2,fun H19 s19=>⟨_,rfl,cg rfl ?_⟩⟩
   have s19:=((az.new (o:=.lst [.bl b1,.bl b2]) hf1).trans (az.new (o:=.lst [.bl b1,.bl b2]) hf2)).trans s19
   have S19:=S18.trans s19
   have hlf:=s19 _ _ hlf
   refine ⟨_,rfl,_,rfl,_,rfl,x1,o,a,b,d1,nm,fs,zs,rfl,rx1.same S19,t1.td,ka15.same S19,fl4,S19 _ _ hb,ib,t1.ok,fun H20 s20=>?_⟩
   have S20:=S19.trans s20
   refine ⟨_,rfl,_,rfl,_,rfl,x2,o,a,b,d2,nm,fs,zs,rfl,rx2.same S20,t2.td,ka15.same S20,fl4,S20 _ _ hb,ib,t2.ok,fun H21 s21=>⟨(by ext),fun f3 hf3=>?_⟩⟩
   have hlf:=(s20.trans s21) _ _ hlf
   have S21:=S20.trans s21
   have e3:=az.new (o:=.lst [.bl (cF nm fs zs d1),.bl (cF nm fs zs d2)]) hf3
   refine ⟨_,rfl,lf,_,rfl,bD.of (e3 _ _ hlf),fun f4 hf4=>?_⟩
   rw [(uZ _ _ _ _).1]
   have e4:=az.new (o:=.lst [.bl b1,.bl b2]) hf4
   refine ⟨.ref f3,.ref f4,.list [.bool b1,.bool b2],rfl,.lst (bD.of (e4 _ _ ao)) (by rw [hb1,hb2];exact .cons (.bl _) (.cons (.bl _) .nil)),.lst (bD.of ao) (.cons (.bl _) (.cons (.bl _) .nil)),sml.1,sml.2,fun H22 s22=>⟨_,rfl,cg rfl ?_⟩⟩
   have S22:=S21.trans ((e3.trans e4).trans s22)
   have hlf:=((e3.trans e4).trans s22) _ _ hlf
   have H22s:az H17 H22:=s18.trans (s19.trans ((s20.trans s21).trans ((e3.trans e4).trans s22)))
   have hu22:=H22s _ _ hu17
   have pu22:=eZ H22s.tkT pu
   clear s18 s19 s20 s21 s22 e3 e4 hf1 hf2 hf3 hf4 S18 S19 S20 S21 H22s
   refine ⟨_,rfl,lf,_,_,_,rfl,rfl,bD.of hlf,aL (j:=0) rfl,_,rfl,lf,_,_,_,rfl,rfl,bD.of hlf,aL (j:=2) rfl,rfl,_,rfl,?_⟩
   have et:(gV (fs.map bW)).take (j+1)=(gV (fs.map bW)).take j++[zs]:=by rw [List.take_add_one,hzs];rfl
   have ul:us.length≤81:=by
    rw [Paired.length pu]
    refine Nat.le_trans (List.length_filter_le _ _) ?_
    rw [List.length_take]
    omega
   have epr:dR nm fs d1 d2 zs=(b1 != b2):=by unfold dR;rw [hb1,hb2]
   refine gD (fun h=>?_) (fun h=>?_)
   ·have hne:dR nm fs d1 d2 zs=true:=by rw [epr];revert h;cases b1 <;> cases b2 <;> decide
    refine ⟨_,rfl,.inl ⟨rfl,_,bD.of hu22⟩,_,rfl,qu,us,_,rfl,rfl,hu22,eX (by omega),?_⟩
    refine ⟨us++[.ref b],_,_,rfl,fun c u e=>?_,ao,?_⟩
    ·rw [aH (aB e hqu)];exact S22 _ _ e
    ·rw [et,List.filter_append,List.filter_cons_of_pos hne]
     have tk:TK H22 (upd H22 qu (.lst (us++[.ref b]))):=TK.lst hu22
     exact Paired.snoc2 ⟨b,rfl,tk _ _ (S22 _ _ hb)⟩ (eZ tk pu22)
   ·have hne:¬ dR nm fs d1 d2 zs=true:=by rw [epr];revert h;cases b1 <;> cases b2 <;> decide
    refine ⟨us,_,_,rfl,S22,hu22,?_⟩
    rw [et,List.filter_append,List.filter_cons_of_neg hne,List.filter_nil,List.append_nil]
    exact pu22
  ·rintro σ' H17 ⟨us,v12,v13,rfl,s17,hu17,pu⟩
   rw [yl14,List.take_length] at pu
   exact hN4 _ _ ⟨us,v12,v13,rfl,s17,hu17,pu⟩
 rintro σ' H17 ⟨us,v12,v13,rfl,s17,hu17,pu⟩
 have hd:(gV (fs.map bW)).find? (dR nm fs d1 d2)=((gV (fs.map bW)).filter (dR nm fs d1 d2)).head?:=(List.head?_filter ..).symm
 obtain ⟨du,edu⟩:∃ du,du=(gV (fs.map bW)).find? (dR nm fs d1 d2):=⟨_,rfl⟩
 have dul:∀ c,du=some c->c.length≤10:=fun c e=>by
  have h1:=Paired.length (gO.mp (List.mem_of_find?_eq_some (edu.symm.trans e)))
  rw [List.length_map] at h1
  omega
 refine j0 (fun σ' H'=>∃ (vd:V),σ'=[some (.ref sa),some (.ref p),some (.str nm),some (.ref a),some (.ref ln),some (.ref o),some x1,some x2,some (.ref r),v9,some (.ref lw),some (.ref qu),v12,v13,some vd]/\az H15 H'/\Rep K H' vd (n_ du)) ?nx10 fun N5 hN5=>?st10
 case st10=>
  refine ⟨_,rfl,(by ext),fun q1 hq1=>?_⟩
  have s18:az H17 (upd H17 q1 (.lst [])):=az.new hq1
  have e18:upd H17 q1 (.lst []) q1=some (.lst []):=ao
  generalize upd H17 q1 (.lst [])=H18 at s18 e18 ⊢
  have pu18:=eZ s18.tkT pu
  generalize (gV (fs.map bW)).filter (dR nm fs d1 d2)=rs at pu pu18 hd
  have rr:∀ {zs:List V} {us:List (List Int)},Paired (gW H18) zs us->bF K H18 zs (us.map fun c=>.tuple (c.map .int)):=by
   intro zs us p
   induction p with
   |nil=>exact .nil
   | cons a _ ih=>
     obtain ⟨b,rfl,hb⟩:=a
     exact .cons (.tup (bI.of hb) (ints_rep _)) ih
  have dps:∀ us:List (List Int),bK (us.map fun c=>PyData.tuple (c.map .int))≤1:=by
   intro us
   induction us with
   |nil=>simp [bK]
   | cons c t ih=>
     rw [List.map_cons]
     have:=(jQ c).1
     simp only [bK,cR]
     omega
  refine ⟨_,[],.lst (bD.of (s18 _ _ hu17)) (rr pu18),.lst (bD.of e18) .nil,Nat.le_trans (dps rs) (by decide),_,rfl,?_⟩
  rw [hd] at edu
  subst edu
  cases rs with
  |nil=>exact cg (by decide) (hN5 _ _ ⟨.non,rfl,s17.trans s18,.non⟩)
  | cons c t=>
    refine cL (by simp [di]) ?_
    cases pu18 with
    |@cons x _ zs' _ hx tz=>
    obtain ⟨b,rfl,hb⟩:=hx
    exact ⟨_,rfl,qu,_,_,_,rfl,rfl,bD.of (s18 _ _ hu17),aL (j:=0) rfl,hN5 _ _ ⟨.ref b,rfl,s17.trans s18,.tup (bI.of hb) (ints_rep _)⟩⟩
 rintro σ' H18 ⟨vd,rfl,s18,rvd⟩
 clear s17 hu17 pu hd
 have ds:=wN dul
 refine ⟨_,rfl,_,rfl,_,rfl,?_⟩
 dsimp only [oE]
 refine Az (rx1.same s18) (rx2.same s18) t1 t2 (ka15.same s18) fl4 fo fun z1 G1 g1 rz1=>?_
 have S1:=s18.trans g1
 refine ⟨_,rfl,_,rfl,_,rfl,?_⟩
 try dsimp only [oE]
 refine Az (rx2.same S1) (rx1.same S1) t2 t1 (ka15.same S1) fl4 fo fun z2 G2 g2 rz2=>?_
 refine ⟨(by ext),fun f1 hf1=>⟨_,rfl,_,rfl,(by ext),fun f2 hf2=>?_⟩⟩
 rw [show dR nm fs d2 d1=dR nm fs d1 d2 from funext (wI nm fs d2 d1),← edu] at rz2
 rw [← edu] at rz1
 have e1:=az.new (o:=.lst [z1,z2]) hf1
 have e2:=az.new (o:=.lst [vd,vd]) hf2
 have e12:=e1.trans e2
 have rv:=rvd.same ((g1.trans g2).trans e12)
 refine ⟨.ref f1,.ref f2,.list [n_ du,n_ du],rfl,.lst (bD.of (e2 _ _ ao)) (.cons (rz1.same (g2.trans e12)) (.cons (rz2.same e12) .nil)),.lst (bD.of ao) (.cons rv (.cons rv .nil)),?_,?_,fun H19 _=>k H19⟩
 ·simp only [cR,bK];omega
 ·simp only [gH,gY,List.length_cons,List.length_nil];omega
def bu (K:Frag) (n:Str) (i:Nat) (f:Addr):Prop:=nsIn K mainGlobals n=some (some (.ref f))/\∃ fd,fK K n n (top i) f fd
def Ga (K:Frag) (C:Addr) (n q:Str) (st:Stmt) (f:Addr):Prop:=∃ fd,(findIn K (.ref C) n=some (some (.ref f))/\isFn K (.ref f)=true)/\fK K n q st f fd
theorem bu.d1 (H:bu K n i f) (X:K.In h) (G:h.Ns mainGlobals mg) (x0:Str) (b:∀ (kV doc pm:Value) (an:Option Addr) (cdv ct u0:Value),bindArgs (fnOf n n (eE (top i)) (dN (top i)) (aA (top i)) .none kV doc pm an cdv ct) ⟨[u0],[]⟩=pure ([x0].zip [u0])):∃ fd,cj K mg n (top i) [x0] f fd:=by
 obtain ⟨a,fd,F⟩:=H
 exact ⟨fd,F,mg_of X G a,F.binds fun _ _ _ _ _ _ us hl=>by obtain ⟨_,rfl⟩:=Rv hl;exact b _ _ _ _ _ _ _⟩
theorem bu.d2 (H:bu K n i f) (X:K.In h) (G:h.Ns mainGlobals mg) (x0 x1:Str) (b:∀ (kV doc pm:Value) (an:Option Addr) (cdv ct u0 u1:Value),bindArgs (fnOf n n (eE (top i)) (dN (top i)) (aA (top i)) .none kV doc pm an cdv ct) ⟨[u0,u1],[]⟩=pure ([x0,x1].zip [u0,u1])):∃ fd,cj K mg n (top i) [x0,x1] f fd:=by
 obtain ⟨a,fd,F⟩:=H
 exact ⟨fd,F,mg_of X G a,F.binds fun _ _ _ _ _ _ us hl=>by obtain ⟨_,_,rfl⟩:=Eb hl;exact b _ _ _ _ _ _ _ _⟩
theorem bu.d3 (H:bu K n i f) (X:K.In h) (G:h.Ns mainGlobals mg) (x0 x1 x2:Str) (b:∀ (kV doc pm:Value) (an:Option Addr) (cdv ct u0 u1 u2:Value),bindArgs (fnOf n n (eE (top i)) (dN (top i)) (aA (top i)) .none kV doc pm an cdv ct) ⟨[u0,u1,u2],[]⟩=pure ([x0,x1,x2].zip [u0,u1,u2])):∃ fd,cj K mg n (top i) [x0,x1,x2] f fd:=by
 obtain ⟨a,fd,F⟩:=H
 exact ⟨fd,F,mg_of X G a,F.binds fun _ _ _ _ _ _ us hl=>by obtain ⟨_,_,_,rfl⟩:=QK hl;exact b _ _ _ _ _ _ _ _ _⟩
theorem bu.d4 (H:bu K n i f) (X:K.In h) (G:h.Ns mainGlobals mg) (x0 x1 x2 x3:Str) (b:∀ (kV doc pm:Value) (an:Option Addr) (cdv ct u0 u1 u2 u3:Value),bindArgs (fnOf n n (eE (top i)) (dN (top i)) (aA (top i)) .none kV doc pm an cdv ct) ⟨[u0,u1,u2,u3],[]⟩=pure ([x0,x1,x2,x3].zip [u0,u1,u2,u3])):∃ fd,cj K mg n (top i) [x0,x1,x2,x3] f fd:=by
 obtain ⟨a,fd,F⟩:=H
 exact ⟨fd,F,mg_of X G a,F.binds fun _ _ _ _ _ _ us hl=>by obtain ⟨_,_,_,_,rfl⟩:=Uv hl;exact b _ _ _ _ _ _ _ _ _ _⟩
theorem Hu {l:PySem.W.OpenLaw} {w:World} {K:PySem.W.Frag} {h:Heap} {mg:Str->Option Value} {fa fLa fB fP fO fW fWs fS fNu fLe fTr fPa fDe fTe fSf fAp fNm fNn fNf fIw fNb fLf fCp fIt fNt fLw fTx fTw fRt fRp fRw fRn fEr fBh fHo fPs fPl fPd fCn fTn fMd fLt fLr fWf fIy fIr fCa fLeo fNy fWa fR fSh fGo tW tS tF qK fKI TdK d0K fPo fNe:Addr} (X:K.In h) (G:h.Ns mainGlobals mg) (hfa:mg "law" = some (.ref fa))
 {odKI anKI odTK:Option Addr} {slKI slTK:Array (Option Value)} {t_MOST_LETTERS t_MOST_FIELDS t_LIMIT t_MOST_PARTS t_MOST_DEEP t_NO t_YES t_ROW nTK t_LETTERS t_FIGURES:Nat} {ocKI kVKI dcKI pmKI cdKI ctKI ocTK:Value}
 (hLa:bu K "law" 80 fLa)
 (hB:bu K "_law_begin" 66 fB)
 (hP:bu K "_law_pick" 67 fP)
 (hO:bu K "_law_of" 68 fO)
 (hW:bu K "_law_word" 70 fW)
 (hWs:bu K "_law_words" 71 fWs)
 (hS:bu K "_law_same" 69 fS)
 (hNu:bu K "_law_number" 72 fNu)
 (hLe:bu K "_law_leaf" 73 fLe)
 (hTr:bu K "_law_tree" 74 fTr)
 (hPa:bu K "_law_parts" 75 fPa)
 (hDe:bu K "_law_deep" 76 fDe)
 (hTe:bu K "_law_test" 77 fTe)
 (hSf:bu K "_law_small_fields" 78 fSf)
 (hAp:bu K "_law_all_pairs" 79 fAp)
 (hNm:bu K "is_name" 14 fNm)
 (hNn:bu K "need_name" 15 fNn)
 (hNf:bu K "need_fields" 16 fNf)
 (hIw:bu K "is_word" 27 fIw)
 (hNb:bu K "is_number" 28 fNb)
 (hLf:bu K "is_leaf" 29 fLf)
 (hCp:bu K "count_parts" 30 fCp)
 (hIt:bu K "is_test" 31 fIt)
 (hNt:bu K "need_test" 32 fNt)
 (hLw:bu K "leaves_within" 33 fLw)
 (hTx:bu K "test_text" 34 fTx)
 (hTw:bu K "text_within" 35 fTw)
 (hRt:bu K "read_test" 36 fRt)
 (hRp:bu K "read_part" 37 fRp)
 (hRw:bu K "read_within" 38 fRw)
 (hRn:bu K "read_number" 39 fRn)
 (hEr:bu K "end_of_run" 40 fEr)
 (hBh:bu K "behind" 41 fBh)
 (hHo:bu K "holds" 42 fHo)
 (hPs:bu K "passes" 43 fPs)
 (hPl:bu K "passes_leaf" 44 fPl)
 (hPd:bu K "parted" 45 fPd)
 (hCn:bu K "corners" 46 fCn)
 (hTn:bu K "turns" 47 fTn)
 (hMd:bu K "made" 57 fMd)
 (hLt:bu K "lay_test" 58 fLt)
 (hLr:bu K "lay_row" 59 fLr)
 (hWf:bu K "way_from" 60 fWf)
 (hIy:bu K "is_way" 52 fIy)
 (hIr:bu K "is_row" 53 fIr)
 (hCa:bu K "can_be_asked" 54 fCa)
 (hLeo:bu K "leads_on" 55 fLeo)
 (hNy:bu K "need_way" 56 fNy)
 (hWa:bu K "walk" 62 fWa)
 (hR:bu K "run" 61 fR)
 (hSh:bu K "shorter" 63 fSh)
 (hGo:bu K "goal_of" 64 fGo)
 (z_len:PySem.W.nsIn K mainGlobals "len" = some none)
 (z_range:PySem.W.nsIn K mainGlobals "range" = some none)
 (z_list:PySem.W.nsIn K mainGlobals "list" = some none)
 (z_tuple:PySem.W.nsIn K mainGlobals "tuple" = some none)
 (z_str:PySem.W.nsIn K mainGlobals "str" = some none)
 (z_bool:PySem.W.nsIn K mainGlobals "bool" = some none)
 (z_int:PySem.W.nsIn K mainGlobals "int" = some none)
 (z_min:PySem.W.nsIn K mainGlobals "min" = some none)
 (z_repr:PySem.W.nsIn K mainGlobals "repr" = some none)
 (z_all:PySem.W.nsIn K mainGlobals "all" = some none)
 (z_any:PySem.W.nsIn K mainGlobals "any" = some none)
 (z_isinstance:PySem.W.nsIn K mainGlobals "isinstance" = some none)
 (z_sum:PySem.W.nsIn K mainGlobals "sum" = some none)
 (z_max:PySem.W.nsIn K mainGlobals "max" = some none)
 (z_enumerate:PySem.W.nsIn K mainGlobals "enumerate" = some none)
 (z_zip:PySem.W.nsIn K mainGlobals "zip" = some none)
 (z_sorted:PySem.W.nsIn K mainGlobals "sorted" = some none)
 (z_reversed:PySem.W.nsIn K mainGlobals "reversed" = some none)
 (i_MOST_LETTERS:PySem.W.nsIn K mainGlobals "MOST_LETTERS" = some (some (.int 8 t_MOST_LETTERS)))
 (i_MOST_FIELDS:PySem.W.nsIn K mainGlobals "MOST_FIELDS" = some (some (.int 4 t_MOST_FIELDS)))
 (i_LIMIT:PySem.W.nsIn K mainGlobals "LIMIT" = some (some (.int 999999 t_LIMIT)))
 (i_MOST_PARTS:PySem.W.nsIn K mainGlobals "MOST_PARTS" = some (some (.int 15 t_MOST_PARTS)))
 (i_MOST_DEEP:PySem.W.nsIn K mainGlobals "MOST_DEEP" = some (some (.int 5 t_MOST_DEEP)))
 (i_NO:PySem.W.nsIn K mainGlobals "NO" = some (some (.int 0 t_NO)))
 (i_YES:PySem.W.nsIn K mainGlobals "YES" = some (some (.int 1 t_YES)))
 (i_ROW:PySem.W.nsIn K mainGlobals "ROW" = some (some (.int 2 t_ROW)))
 (a_tW:PySem.W.nsIn K mainGlobals "WITHIN" = some (some (.ref tW)))
 (ktW:PyProof.Rows.KTD.tabLook PyProof.Rows.KTD.flatLooks (fun b=>K.lookup b) tW dW=true)
 (a_tS:PySem.W.nsIn K mainGlobals "SIGN_OF" = some (some (.ref tS)))
 (ktS:PyProof.Rows.KTD.tabLook PyProof.Rows.KTD.flatLooks (fun b=>K.lookup b) tS dS=true)
 (a_tF:PySem.W.nsIn K mainGlobals "FORM_OF" = some (some (.ref tF)))
 (ktF:PyProof.Rows.KTD.tabLook PyProof.Rows.KTD.flatLooks (fun b=>K.lookup b) tF dF=true)
 (a_qK:PySem.W.nsIn K mainGlobals "Kind" = some (some (.ref qK)))
 (pgK:PySem.W.plainGet K qK Str.empty=true)
 (hdK:PySem.W.hasDictIn K qK=true)
 (poK:PySem.W.plainOver K qK=true)
 (saK:PySem.W.findIn K (.ref qK) "__setattr__" = some (some (.builtin "object.__setattr__")))
 (mkK:PySem.W.makesIn K qK=true)
 (kcK:PySem.W.keepIn K (.ref qK)=true)
 (nK_name:PySem.W.findIn K (.ref qK) "name" = some none)
 (nK_fields:PySem.W.findIn K (.ref qK) "fields" = some none)
 (aKI:PySem.W.findIn K (.ref qK) "__init__" = some (some (.ref fKI)))
 (lKI:K.lookup fKI=some ⟨ocKI,odKI,.func (PySem.W.fnOf "__init__" "Kind.__init__" (eE (kM 0)) (dN (kM 0)) (aA (kM 0)) (.ref TdK) kVKI dcKI pmKI anKI cdKI ctKI),slKI⟩)
 (cKI:PySem.W.codeIn K cdKI "Kind.__init__" = true)
 (kKI:PySem.W.keepIn K (.ref fKI)=true)
 (iKI:PySem.W.isFn K (.ref fKI)=true)
 (lTK:K.lookup TdK=some ⟨ocTK,odTK,.seq #[.ref d0K] nTK,slTK⟩)
 (hPo:Ga K qK "place_of" "Kind.place_of" (kM 3) fPo)
 (hNe:Ga K qK "need" "Kind.need" (kM 4) fNe)
 (i_LETTERS:PySem.W.nsIn K mainGlobals "LETTERS" = some (some (.str l_ t_LETTERS)))
 (i_FIGURES:PySem.W.nsIn K mainGlobals "FIGURES" = some (some (.str sS t_FIGURES))) :
 ∃ fd:FuncData,(∀ (s:Shared) (v:Value),BindsTo s fd ⟨[v],[]⟩ [("_law_script",v)])/\∀ base:Heap,K.In base->base.Ns mainGlobals mg->aJ l.prog w K mg base bB 18 fa fd ["_law_script"] (Bc K):=by
 obtain ⟨aLa,fd,FLa⟩:=hLa
 have e:=hfa.symm.trans (PySem.W.mg_of X G aLa)
 cases e
 have FLb:=FLa
 obtain ⟨oc,od,kV,doc,pm,an,cdv,ct,osl,rfl,lk,hcd⟩:=FLb.ex
 have T:Txt K mg:=⟨PySem.W.mg_none_of X G z_len,PySem.W.mg_none_of X G z_range,PySem.W.mg_none_of X G z_list,PySem.W.mg_none_of X G z_tuple,PySem.W.mg_none_of X G z_str,PySem.W.mg_none_of X G z_bool,PySem.W.mg_none_of X G z_int,PySem.W.mg_none_of X G z_min,PySem.W.mg_none_of X G z_repr,PySem.W.mg_none_of X G z_all,PySem.W.mg_none_of X G z_any,PySem.W.mg_none_of X G z_isinstance⟩
 obtain ⟨_,DB⟩:=hB.d1 (mg:=mg) X G "_law_script" fun _ _ _ _ _ _ _=>rfl
 obtain ⟨_,DP⟩:=hP.d2 (mg:=mg) X G "_law_d" "_law_many" fun _ _ _ _ _ _ _ _=>rfl
 obtain ⟨_,DO⟩:=hO.d2 (mg:=mg) X G "_law_d" "_law_things" fun _ _ _ _ _ _ _ _=>rfl
 obtain ⟨_,DW⟩:=hW.d1 (mg:=mg) X G "_law_d" fun _ _ _ _ _ _ _=>rfl
 obtain ⟨_,DWs⟩:=hWs.d2 (mg:=mg) X G "_law_d" "_law_many" fun _ _ _ _ _ _ _ _=>rfl
 obtain ⟨_,DS⟩:=hS.d2 (mg:=mg) X G "_law_found" "_law_due" fun _ _ _ _ _ _ _ _=>rfl
 obtain ⟨_,DNu⟩:=hNu.d1 (mg:=mg) X G "_law_d" fun _ _ _ _ _ _ _=>rfl
 obtain ⟨_,DLe⟩:=hLe.d3 (mg:=mg) X G "_law_d" "_law_names" "_law_kinds" fun _ _ _ _ _ _ _ _ _=>rfl
 obtain ⟨_,DTr⟩:=hTr.d4 (mg:=mg) X G "_law_d" "_law_deep_here" "_law_names" "_law_kinds" fun _ _ _ _ _ _ _ _ _ _=>rfl
 obtain ⟨_,DPa⟩:=hPa.d1 (mg:=mg) X G "_law_test_here" fun _ _ _ _ _ _ _=>rfl
 obtain ⟨_,DDe⟩:=hDe.d1 (mg:=mg) X G "_law_test_here" fun _ _ _ _ _ _ _=>rfl
 obtain ⟨_,DTe⟩:=hTe.d3 (mg:=mg) X G "_law_d" "_law_names" "_law_kinds" fun _ _ _ _ _ _ _ _ _=>rfl
 obtain ⟨_,DSf⟩:=hSf.d1 (mg:=mg) X G "_law_d" fun _ _ _ _ _ _ _=>rfl
 obtain ⟨_,DAp⟩:=hAp.d2 (mg:=mg) X G "_law_rows" "_law_field" fun _ _ _ _ _ _ _ _=>rfl
 obtain ⟨_,DNm⟩:=hNm.d1 (mg:=mg) X G "text" fun _ _ _ _ _ _ _=>rfl
 obtain ⟨_,DNn⟩:=hNn.d1 (mg:=mg) X G "text" fun _ _ _ _ _ _ _=>rfl
 obtain ⟨_,DNf⟩:=hNf.d1 (mg:=mg) X G "fields" fun _ _ _ _ _ _ _=>rfl
 obtain ⟨_,DIw⟩:=hIw.d1 (mg:=mg) X G "thing" fun _ _ _ _ _ _ _=>rfl
 obtain ⟨_,DNb⟩:=hNb.d1 (mg:=mg) X G "thing" fun _ _ _ _ _ _ _=>rfl
 obtain ⟨_,DLf⟩:=hLf.d1 (mg:=mg) X G "test" fun _ _ _ _ _ _ _=>rfl
 obtain ⟨_,DCp⟩:=hCp.d2 (mg:=mg) X G "thing" "deep" fun _ _ _ _ _ _ _ _=>rfl
 obtain ⟨_,DIt⟩:=hIt.d1 (mg:=mg) X G "test" fun _ _ _ _ _ _ _=>rfl
 obtain ⟨_,DNt⟩:=hNt.d1 (mg:=mg) X G "test" fun _ _ _ _ _ _ _=>rfl
 obtain ⟨_,DLw⟩:=hLw.d1 (mg:=mg) X G "test" fun _ _ _ _ _ _ _=>rfl
 obtain ⟨_,DTx⟩:=hTx.d1 (mg:=mg) X G "test" fun _ _ _ _ _ _ _=>rfl
 obtain ⟨_,DTw⟩:=hTw.d1 (mg:=mg) X G "test" fun _ _ _ _ _ _ _=>rfl
 obtain ⟨_,DRt⟩:=hRt.d1 (mg:=mg) X G "text" fun _ _ _ _ _ _ _=>rfl
 obtain ⟨_,DRp⟩:=hRp.d3 (mg:=mg) X G "text" "at" "deep" fun _ _ _ _ _ _ _ _ _=>rfl
 obtain ⟨_,DRw⟩:=hRw.d4 (mg:=mg) X G "text" "at" "form" "deep" fun _ _ _ _ _ _ _ _ _ _=>rfl
 obtain ⟨_,DRn⟩:=hRn.d2 (mg:=mg) X G "text" "at" fun _ _ _ _ _ _ _ _=>rfl
 obtain ⟨_,DEr⟩:=hEr.d3 (mg:=mg) X G "text" "at" "signs" fun _ _ _ _ _ _ _ _ _=>rfl
 obtain ⟨_,DBh⟩:=hBh.d3 (mg:=mg) X G "text" "at" "sign" fun _ _ _ _ _ _ _ _ _=>rfl
 obtain ⟨_,DHo⟩:=hHo.d3 (mg:=mg) X G "test" "kind" "values" fun _ _ _ _ _ _ _ _ _=>rfl
 obtain ⟨_,DPs⟩:=hPs.d3 (mg:=mg) X G "test" "kind" "values" fun _ _ _ _ _ _ _ _ _=>rfl
 obtain ⟨_,DPl⟩:=hPl.d3 (mg:=mg) X G "leaf" "kind" "values" fun _ _ _ _ _ _ _ _ _=>rfl
 obtain ⟨_,DPd⟩:=hPd.d3 (mg:=mg) X G "one" "other" "kind" fun _ _ _ _ _ _ _ _ _=>rfl
 obtain ⟨_,DCn⟩:=hCn.d2 (mg:=mg) X G "found" "kind" fun _ _ _ _ _ _ _ _=>rfl
 obtain ⟨_,DTn⟩:=hTn.d4 (mg:=mg) X G "found" "field" "low" "high" fun _ _ _ _ _ _ _ _ _ _=>rfl
 obtain ⟨_,DMd⟩:=hMd.d1 (mg:=mg) X G "test" fun _ _ _ _ _ _ _=>rfl
 obtain ⟨_,DLt⟩:=hLt.d4 (mg:=mg) X G "test" "yes" "no" "laid" fun _ _ _ _ _ _ _ _ _ _=>rfl
 obtain ⟨_,DLr⟩:=hLr.d4 (mg:=mg) X G "leaf" "yes" "no" "laid" fun _ _ _ _ _ _ _ _ _ _=>rfl
 obtain ⟨_,DWf⟩:=hWf.d2 (mg:=mg) X G "goal" "laid" fun _ _ _ _ _ _ _ _=>rfl
 obtain ⟨_,DIy⟩:=hIy.d1 (mg:=mg) X G "way" fun _ _ _ _ _ _ _=>rfl
 obtain ⟨_,DIr⟩:=hIr.d3 (mg:=mg) X G "row" "at" "many" fun _ _ _ _ _ _ _ _ _=>rfl
 obtain ⟨_,DCa⟩:=hCa.d1 (mg:=mg) X G "leaf" fun _ _ _ _ _ _ _=>rfl
 obtain ⟨_,DLeo⟩:=hLeo.d3 (mg:=mg) X G "goal" "at" "many" fun _ _ _ _ _ _ _ _ _=>rfl
 obtain ⟨_,DNy⟩:=hNy.d1 (mg:=mg) X G "way" fun _ _ _ _ _ _ _=>rfl
 obtain ⟨_,DWa⟩:=hWa.d3 (mg:=mg) X G "way" "kind" "values" fun _ _ _ _ _ _ _ _ _=>rfl
 obtain ⟨_,DR⟩:=hR.d3 (mg:=mg) X G "way" "kind" "values" fun _ _ _ _ _ _ _ _ _=>rfl
 obtain ⟨_,DSh⟩:=hSh.d1 (mg:=mg) X G "way" fun _ _ _ _ _ _ _=>rfl
 obtain ⟨_,DGo⟩:=hGo.d2 (mg:=mg) X G "end" "goals" fun _ _ _ _ _ _ _ _=>rfl
 have FKI:yg K "__init__" "Kind.__init__" (kM 0) (.ref TdK) fKI _:=⟨⟨_,_,_,_,_,_,_,_,_,rfl,lKI,cKI⟩,kKI⟩
 have bKI:=FKI.binds (ps:=["self","name","fields"]) (ds:=[]) lTK rfl fun kV doc pm an cdv ct s us hT hl=>zy rfl kV doc pm an cdv ct s us hT hl
 have MkK:Mk K qK fKI:=⟨mkK,aKI,iKI,kcK⟩
 obtain ⟨fdPo,aPo,FPo⟩:=hPo
 have bPo:=FPo.binds (ps:=["self","field"]) fun _ _ _ _ _ _ us hl=>by obtain ⟨_,_,rfl⟩:=Eb hl;rfl
 have MPo:MD K qK "place_of" "Kind.place_of" (kM 3) ["self","field"] fPo _:=⟨⟨aPo.1,aPo.2,FPo.kp⟩,FPo,bPo⟩
 obtain ⟨fdNe,aNe,FNe⟩:=hNe
 have bNe:=FNe.binds (ps:=["self","values"]) fun _ _ _ _ _ _ us hl=>by obtain ⟨_,_,rfl⟩:=Eb hl;rfl
 have MNe:MD K qK "need" "Kind.need" (kM 4) ["self","values"] fNe _:=⟨⟨aNe.1,aNe.2,FNe.kp⟩,FNe,bNe⟩
 refine ⟨PySem.W.fnOf "law" "law" (eE (top 80)) (dN (top 80)) (aA (top 80)) .none kV doc pm an cdv ct,fun s v=>.of_eq rfl,fun base _ _=>?_⟩
 have TK':nW mg:=⟨⟨_,PySem.W.mg_of X G i_MOST_LETTERS⟩,⟨_,PySem.W.mg_of X G i_MOST_FIELDS⟩,⟨_,PySem.W.mg_of X G i_LIMIT⟩⟩
 have TT:J5 mg:=⟨⟨_,PySem.W.mg_of X G i_MOST_PARTS⟩,⟨_,PySem.W.mg_of X G i_MOST_DEEP⟩⟩
 have TR:Ef mg:=⟨⟨_,PySem.W.mg_of X G i_LETTERS⟩,⟨_,PySem.W.mg_of X G i_FIGURES⟩⟩
 have TB:nM K mg tW tS:=⟨PySem.W.mg_of X G a_tW,PySem.W.mg_of X G a_tS,ktW,ktS⟩
 have hsum:=PySem.W.mg_none_of X G z_sum
 have hmax:=PySem.W.mg_none_of X G z_max
 have hen:=PySem.W.mg_none_of X G z_enumerate
 have hzp:=PySem.W.mg_none_of X G z_zip
 have hso:=PySem.W.mg_none_of X G z_sorted
 have hrv:=PySem.W.mg_none_of X G z_reversed
 have TW:zV mg:=⟨⟨_,PySem.W.mg_of X G i_NO⟩,⟨_,PySem.W.mg_of X G i_YES⟩,⟨_,PySem.W.mg_of X G i_ROW⟩⟩
 have KC:KCls K mg qK:=⟨⟨pgK,hdK,poK,saK⟩,nK_name,nK_fields,PySem.W.mg_of X G a_qK⟩
 have GCp:=RN (P:=l.prog) (w:=w) (base:=base) DCp T hsum TK' TB DNm DIw DNb DLf 5 (by decide)
 have GIt:=Qn (P:=l.prog) (w:=w) (base:=base) DIt.F TT DCp GCp
 have GNt:=Nx (P:=l.prog) (w:=w) (base:=base) (cT:=0) DNt.F DIt GIt
 have GPo:=Ai (P:=l.prog) (w:=w) (base:=base) FPo T hen KC
 have GPl:=PK (P:=l.prog) (w:=w) (base:=base) DPl.F KC MPo GPo
 have GPs:=O5 (P:=l.prog) (w:=w) (base:=base) DPs DPl GPl 5
 have GLf:=Gg (P:=l.prog) (w:=w) (base:=base) DLf.F T TK' TB DNm DIw DNb
 have GLr:=QX (P:=l.prog) (w:=w) (base:=base) DLr.F TW
 have GLt:=Qo (P:=l.prog) (w:=w) (base:=base) DLt DLr GLr 5
 have GWf:=MF (P:=l.prog) (w:=w) (base:=base) DWf.F T TW hrv hen
 have GMd:=Sy (P:=l.prog) (w:=w) (base:=base) DMd.F TW DNt GNt DLt GLt DWf GWf
 have GIr:=QW (P:=l.prog) (w:=w) (base:=base) DIr.F DCa (PJ DCa.F T DLf GLf) DLeo (GJ DLeo.F T)
 have GNy:=Jp (P:=l.prog) (w:=w) (base:=base) DNy.F DIy (Ib DIy.F T hen DIr GIr)
 have GNe:=KJ (P:=l.prog) (w:=w) (base:=base) FNe T hen hzp KC
 have GWa:=Qz (P:=l.prog) (w:=w) (base:=base) DWa.F T KC DNy GNy MNe GNe DPl GPl
 have GR:=LC (P:=l.prog) (w:=w) (base:=base) DR.F DWa GWa
 have GSh:=Qh (P:=l.prog) (w:=w) (base:=base) DSh.F T hrv DNy GNy DGo (Oh DGo.F T TW) DLr GLr DWf GWf
 have GHo:=Nk (P:=l.prog) (w:=w) (base:=base) DHo.F KC DNt GNt MNe GNe DPs GPs
 have GPd:=N8 (P:=l.prog) (w:=w) (base:=base) DPd.F T hso TB KC DNt GNt DLw DCn DTn DPs GPs
 have GTx:=Ml (P:=l.prog) (w:=w) (base:=base) DTx.F DNt GNt DTw (Oe DTw TB 5)
 have GRp:=wY (P:=l.prog) (w:=w) (base:=base) (cT:=0) DRp T TR TB (PySem.W.mg_of X G a_tF) ktF DEr DRn (Oo (cT:=0) DRn.F T TK' TR DEr) DRw DBh (Oj DBh.F) 5
 have GRt:=Rt (P:=l.prog) (w:=w) (base:=base) DRt.F T TT DRp GRp DIt GIt
 have GW:=vp (P:=l.prog) (w:=w) (base:=base) DW.F T DP DO
 have GTe:=NQ (P:=l.prog) (w:=w) (base:=base) DTe.F T hsum DP DO DNu DLe DTr DPa
 have GKI:=Cw (P:=l.prog) (w:=w) (base:=base) FKI T TK' KC DNm DNn DNf
 exact Jd FLa T KC DB DP DO DW GW DS DSf (R8 DSf.F T DP DO DW DWs) DTe GTe DPa (Gr DPa hsum 5) DDe (Ov DDe hmax 5) DAp (Qx DAp.F T) DMd GMd DSh GSh DR GR DHo GHo DPd GPd DTx GTx DRt GRt MkK GKI bKI
end Cm
open PySem PySem.W PyProof.Rows
set_option maxRecDepth 100000 in
set_option maxHeartbeats 0 in
theorem PySem.Challenge.cw_lanescribe_k53_whole_ways_and_tests_alik_holds : PySem.Challenge.rw_lanescribe_k53_whole_ways_and_tests_alik.Holds := by
 w_on
 refine Kd.head ?hw (by rfl) (by rfl) (by rfl) ?hc
 (case hw=>w_witness2)
 k_fill
 refine L2.Cp (l:=PySem.Challenge.rw_lanescribe_k53_whole_ways_and_tests_alik) (n:=63) (k:=18) (x:="_law_script") (CX:=fun _=>L2.bB) (sp:=fun w=>Cm.Bc _) rfl (by decide) rfl ⟨rfl,by decide,by decide,rfl⟩ (fun w h Y=>kIn_of Y) ?F (fun _ _ a ns hl _ hS=>⟨a,ns,rfl,hS,hl,fun _=>rfl⟩) fun _ _ _ _ _ z=>z
 case F=>
  intro w mg fa h KX G hmg
  refine' Cm.Hu KX G hmg ?_ ?_ ?_ ?_ ?_ ?_ ?_ ?_ ?_ ?_ ?_ ?_ ?_ ?_ ?_ ?_ ?_ ?_ ?_ ?_ ?_ ?_ ?_ ?_ ?_ ?_ ?_ ?_ ?_ ?_ ?_ ?_ ?_ ?_ ?_ ?_ ?_ ?_ ?_ ?_ ?_ ?_ ?_ ?_ ?_ ?_ ?_ ?_ ?_ ?_ ?_ ?_ ?_ ?_ ?_ ?_ ?_ ?_ ?_ ?_ ?_ ?_ ?_ ?_ ?_ ?_ ?_ ?_ ?_ ?_ ?_ ?_ ?_ ?_ ?_ ?_ ?_ ?_ ?_ ?_ ?_ ?_ ?_ ?_ ?_ ?_ ?_ ?_ ?_ ?_ ?_ ?_ ?_ ?_ ?_ ?_ ?_ ?_ ?_ ?_ ?_ ?_ ?_
  any_goals first|k_is|exact ⟨by k_is,_,⟨_,_,_,_,_,_,_,_,_,rfl,by k_is,by k_is⟩,by k_is⟩|exact ⟨_,⟨by k_is,by k_is⟩,⟨_,_,_,_,_,_,_,_,_,rfl,by k_is,by k_is⟩,by k_is⟩|skip
  any_goals first|kernel_rfl|decide|(intros;kernel_rfl)|skip
