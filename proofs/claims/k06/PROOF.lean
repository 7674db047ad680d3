import PyProof.Rows.All
import Wide.All
import OpenK.AllK
import Wide.FinOn
import KE.KNestM
import Lean
import PyProof.EqAt
import PyProof.EqKinds
import PyProof.TupleCall
import PyProof.StationsW
import PyProof.ExcBaseAll.ValueError
import PyProof.InstStoreFacts
import PyProof.RulesAs
import PyProof.RulesDel
import KE.KLam
import PyProof.ExcArgsOwn
import PyProof.AutoListH
import PyProof.StrWalks
import PyProof.StrBlockH
import PyProof.WalkInts
import PyProof.SeqI3
import PyProof.Rows.SetFrom
import PyProof.ZipIter
import KE.KTabLook
import PyProof.StrLaws
import KE.KIntText
import KE.KStrOpen
import PyProof.StrLawsTight
import PyProof.Rows.StrFit
import PyProof.Draws
import PyProof.EnumMake
import PyProof.StrCalls2
import PyProof.Rows.StrSplitJoin
import PyProof.CollectIter
import PyProof.StrBlock2
import PyProof.Rows.SortWalk
import PyProof.Rows.CallKwBuiltin
import KE.KMinBuiltin
import KE.KRevSl
import PyProof.DictItemsLoops
import PyProof.CollectWalk
import PySem.Challenge.RW_lanescribe_k06_events_that_pass
set_option Elab.async false
set_option linter.all false
set_option maxRecDepth 1000000
set_option maxHeartbeats 0
namespace Kd
open PySem PySem.W
noncomputable section
theorem left_boot {p q:Program} {loose:List Str} {Xt:Shared->Bool} {α:Type} {Yf:Shared->α} {Ya:World->α} {N:Nat} (e:opening p=plainProg p.main.scope.names) (hN:Nat.ble 600 N=true) (f:∀ s,fenceModules? p s=some s)
 (h:∀ (w:World) (os:OsState),(topFrom treeTable p w N ⟨boot_heap w.params,Array.mk [],boot_drawn,boot_toks,os⟩).map (fun s=>(openSeen q loose (importedModules p.main.body) Xt true s,Yf s))=some (openGood q loose,Ya w)):LeftO p q loose Xt Yf Ya N:=fun w=>by
 obtain ⟨⟨h',gs,d,k,os⟩,e1,e2⟩:=Option.map_eq_some_iff.mp (boot_open e hN f w)
 obtain ⟨rfl,rfl,rfl,rfl⟩:h'=boot_heap w.params/\gs=Array.mk []/\d=boot_drawn/\k=boot_toks:=by simpa using e2
 unfold openEnds
 rw [e1]
 exact h w os
abbrev u (x:String):Str:=Str.ofString x
abbrev vs (x:String) (t:Nat):Value:=.str (Str.ofString x) t
abbrev vi (x:Int) (t:Nat):Value:=.int x t
abbrev vr (x:Nat):Value:=.ref x
abbrev vt (x:String):Value:=.type x
abbrev vn:Value:=.none
abbrev vb:Value:=.bool true
abbrev vf (t:Nat):Value:=.str (Str.ofString "/claim/cut.py") t
abbrev ot (x:Array Value):Obj:={ cls:=.type "tuple",data:=Data.seq x }
abbrev oc (x:Array Value):Obj:={ cls:=.type "code",data:=Data.fields x }
abbrev of (n q:String) (a:Arguments) (b:List Stmt) (s:Scope) (d m c:Value):Obj:={ cls:=.type "function",data:=Data.func { name:=Str.ofString n,qualname:=Str.ofString q,params:=a,body:=FuncBody.stmts b,scope:=s,globals:=3,closure:=[],defaults:=d,kwdefaults:=.none,pyModule:=m,code:=c } }
abbrev de (P:Params) (x:String) (t:Nat) (v:Value):DictEntry:={ hash:=PyData.keyHash P (Str.ofString x),key:=.str (Str.ofString x) t,val:=v }
def tp (i:Nat):Stmt:=PySem.Challenge.pw_lanescribe_k06_events_that_pass.main.body.getD i (.Pass ⟨0,0,0,0⟩)
def meth (i j:Nat):Stmt:=match tp i with
 |.ClassDef _ _ _ body _ _ _ _ _ _ _=>body.getD j (.Pass ⟨0,0,0,0⟩)
 |_=>.Pass ⟨0,0,0,0⟩
def dA (s:Stmt):Arguments:=match s with
 |.FunctionDef _ a _ _ _ _ _ _ _ _=>a
 |_=>{ posonlyargs:=[],args:=[],vararg:=none,kwonlyargs:=[],kw_defaults:=[],kwarg:=none,defaults:=[] }
def dB (s:Stmt):List Stmt:=match s with
 |.FunctionDef _ _ b _ _ _ _ _ _ _=>b
 |_=>[]
def dS (s:Stmt):Scope:=match s with
 |.FunctionDef _ _ _ _ _ _ sc _ _ _=>sc
 |_=>{ kind:=.function,names:=[],isGenerator:=false,isCoroutine:=false }
abbrev TA (i:Nat):Arguments:=dA (tp i)
abbrev TB (i:Nat):List Stmt:=dB (tp i)
abbrev TS (i:Nat):Scope:=dS (tp i)
abbrev MA (i j:Nat):Arguments:=dA (meth i j)
abbrev MB (i j:Nat):List Stmt:=dB (meth i j)
abbrev MS (i j:Nat):Scope:=dS (meth i j)
abbrev og (n q:String) (a:Arguments) (b:List Stmt) (s:Scope):Obj:={ cls:=.none,data:=Data.func { name:=Str.ofString n,qualname:=Str.ofString q,params:=a,body:=FuncBody.stmts b,scope:=s,globals:=0,closure:=[],defaults:=.none,kwdefaults:=.none } }
abbrev gt (n:String) (i:Nat):Obj:=og n n (TA i) (TB i) (TS i)
abbrev gm (n q:String) (i j:Nat):Obj:=og n q (MA i j) (MB i j) (MS i j)
abbrev ft (n:String) (i:Nat):Value->Value->Value->Obj:=of n n (TA i) (TB i) (TS i)
abbrev fm (n q:String) (i j:Nat):Value->Value->Value->Obj:=of n q (MA i j) (MB i j) (MS i j)
abbrev oq (n:String) (a:Nat) (q:String) (b c:Nat) (l k:Int) (r s:Nat) (x y z:Value) (t:Int) (d:Nat):Obj:=oc #[vs n a,vs q b,vf c,vi l 0,vi k 0,vi 0 0,vi 0 0,vi 3 0,vr r,vb,vi 181 0,vr s,vn,x,y,z,vi t 0,vi l 0,vf d]
abbrev ok (n:String) (a b c:Nat) (l k:Int) (r s:Nat) (x y z:Value) (t:Int) (d:Nat):Obj:=oq n a n b c l k r s x y z t d
abbrev z1:Value:=vs "law_lanescribe_k06_events_that_pass" 640
abbrev z2:Value:=vs "lanescribe.errors" 194
abbrev z3:Value:=vs "lanescribe.kinds" 406
abbrev z4:Value:=vs "lanescribe.sieve" 545
abbrev z5:Value:=vs "ScribeError" 204
def o0:Obj:=ot #[]
def o1:Obj:={ cls:=vn,data:=Data.fields #[] }
def o2:Obj:=oc #[vs "<module>" 182,vs "<module>" 183,vf 184,vi 1 0,vi 0 0,vi 0 0,vi 0 0,vi 0 0,vr 11,Value.bool false,vi 181 0,vr 12,vn,vn,vn,vn,vi 185 0,vi 1 0,vf 186]
def o3:Obj:={ cls:=vt "frame",slots:=#[some (vr 13),some (vr 3),some (vr 3),none,some (vs "__main__" 164),none,some (vr 0)] }
def o4 (P:Params):Obj:={ cls:=vt "dict",data:=Data.dict #[de P "__name__" 165 z2,de P "__doc__" 166 (vn),de P "__package__" 167 (vn),de P "__loader__" 168 (Value.builtin "__main__.__loader__#opaque"),de P "__spec__" 169 (vn),de P "__annotations__" 170 (vr 6),de P "__builtins__" 171 (vr 4),de P "__file__" 173 (vf 172),de P "__cached__" 174 (vn),de P "_wall" 193 (vr 21),de P "ScribeError" 225 (vr 39),de P "BadName" 250 (vr 60),de P "BadBounds" 275 (vr 80),de P "BadTest" 300 (vr 100),de P "Taken" 325 (vr 120)] 15 }
def o5:Obj:={ cls:=vn,data:=Data.fields #[vi 1 0,vi 0 0,vr 20,vi 5 0,vi 0 0,vr 27,vi 10 0,vi 0 0,vr 48,vi 14 0,vi 0 0,vr 68,vi 18 0,vi 0 0,vr 88,vi 22 0,vi 0 0,vr 108] }
def o6:Obj:=ot #[vs "k" 190]
def o7:Obj:=gt "_wall" 0
def o8:Obj:=ok "_wall" 187 188 189 1 1 15 16 (vr 17) (vr 18) (vr 19) 191 192
def o9:Obj:=ft "_wall" 0 vn (vs "__main__" 164) (vr 20)
def o10:Obj:=ot #[vt "ValueError"]
def o11:Obj:={ cls:=vt "builtin_function_or_method",data:=Data.fields #[Value.builtin "type.__prepare__",vt "type"] }
def o12 (P:Params):Obj:={ cls:=vt "dict",data:=Data.dict #[de P "__module__" 203 z2,de P "__qualname__" 205 z5,de P "__firstlineno__" 207 (vi 5 206),de P "__init__" 218 (vr 36),de P "__static_attributes__" 220 (vr 37)] 5 }
def o13:Obj:={ cls:=vn,data:=Data.fields #[vi 7 0,vi 4 0,vr 35] }
def o14:Obj:=oc #[vs "ScribeError" 198,vs "ScribeError" 199,vf 200,vi 5 0,vi 0 0,vi 0 0,vi 0 0,vi 0 0,vr 25,Value.bool false,vi 181 0,vr 26,vn,vn,vn,vn,vi 201 0,vi 5 0,vf 202]
def o15:Obj:={ cls:=vt "frame",slots:=#[some (vr 27),some (vr 3),some (vr 24),none,some z2,none,some (vr 0)] }
def o16:Obj:=ot #[vs "" 208,vs "scribeerror" 209]
def o17:Obj:=ot #[vs "self" 213,vs "words" 214,vs "word" 215]
def o18:Obj:=gm "__init__" "ScribeError.__init__" 2 0
def o19:Obj:=oq "__init__" 210 "ScribeError.__init__" 211 212 7 3 30 31 (vr 32) (vr 33) (vr 34) 216 217
def o20:Obj:=fm "__init__" "ScribeError.__init__" 2 0 (vr 29) z2 (vr 35)
def o21:Obj:=ot #[vs "word" 219]
def o22 (P:Params):Obj:={ cls:=vt "dict",data:=Data.dict #[de P "__module__" 203 z2,de P "__firstlineno__" 207 (vi 5 206),de P "__init__" 218 (vr 36),de P "__static_attributes__" 220 (vr 37),de P "__weakref__" 222 (vr 40),de P "__doc__" 223 (vn)] 3 }
def o23:Obj:={ cls:=vt "type",data:=Data.cls { name:=u "ScribeError",bases:=[vt "ValueError"],mro:=[vr 39,vt "ValueError",vt "Exception",vt "BaseException",vt "object"],ns:=38,qualname:=u "ScribeError",subclasses:=[vr 60,vr 80,vr 100,vr 120] },slots:=#[some (vr 22),none,some (vs "ScribeError" 196),some z5,some (Value.builtin "ValueError.__new__"),some (vb)] }
def o24:Obj:={ cls:=vt "getset_descriptor",data:=Data.fields #[vs "__weakref__" 221,vr 39,Value.builtin "ExceptionGroup.__weakref__",vn] }
def o25:Obj:={ cls:=vt "super",data:=Data.fields #[vr 39,vr 39,vr 39] }
def o26:Obj:={ cls:=vt "builtin_function_or_method",data:=Data.fields #[Value.builtin "object.__init_subclass__",vr 39] }
def o27:Obj:=ot #[vr 39]
def o28 (P:Params):Obj:={ cls:=vt "dict",data:=Data.dict #[de P "__module__" 233 z2,de P "__qualname__" 235 (vs "BadName" 234),de P "__firstlineno__" 237 (vi 10 236),de P "__init__" 246 (vr 57),de P "__static_attributes__" 247 (vr 58)] 5 }
def o29:Obj:={ cls:=vn,data:=Data.fields #[vi 12 0,vi 4 0,vr 56] }
def o30:Obj:=oc #[vs "BadName" 228,vs "BadName" 229,vf 230,vi 10 0,vi 0 0,vi 0 0,vi 0 0,vi 0 0,vr 46,Value.bool false,vi 181 0,vr 47,vn,vn,vn,vn,vi 231 0,vi 10 0,vf 232]
def o31:Obj:={ cls:=vt "frame",slots:=#[some (vr 48),some (vr 3),some (vr 45),none,some z2,none,some (vr 0)] }
def o32:Obj:=ot #[vs "" 238]
def o33:Obj:=ot #[vs "self" 242,vs "words" 243]
def o34:Obj:=gm "__init__" "BadName.__init__" 3 0
def o35:Obj:=oq "__init__" 239 "BadName.__init__" 240 241 12 2 51 52 (vr 53) (vr 54) (vr 55) 244 245
def o36:Obj:=fm "__init__" "BadName.__init__" 3 0 (vr 50) z2 (vr 56)
def o37 (P:Params):Obj:={ cls:=vt "dict",data:=Data.dict #[de P "__module__" 233 z2,de P "__firstlineno__" 237 (vi 10 236),de P "__init__" 246 (vr 57),de P "__static_attributes__" 247 (vr 58),de P "__doc__" 248 (vn)] 2 }
def o38:Obj:={ cls:=vt "type",data:=Data.cls { name:=u "BadName",bases:=[vr 39],mro:=[vr 60,vr 39,vt "ValueError",vt "Exception",vt "BaseException",vt "object"],ns:=59,qualname:=u "BadName" },slots:=#[some (vr 43),none,some (vs "BadName" 226),some (vs "BadName" 234),some (Value.builtin "ValueError.__new__"),some (vb)] }
def o39:Obj:={ cls:=vt "super",data:=Data.fields #[vr 60,vr 60,vr 60] }
def o40:Obj:={ cls:=vt "builtin_function_or_method",data:=Data.fields #[Value.builtin "object.__init_subclass__",vr 60] }
def o41 (P:Params):Obj:={ cls:=vt "dict",data:=Data.dict #[de P "__module__" 258 z2,de P "__qualname__" 260 (vs "BadBounds" 259),de P "__firstlineno__" 262 (vi 14 261),de P "__init__" 271 (vr 77),de P "__static_attributes__" 272 (vr 78)] 5 }
def o42:Obj:={ cls:=vn,data:=Data.fields #[vi 16 0,vi 4 0,vr 76] }
def o43:Obj:=oc #[vs "BadBounds" 253,vs "BadBounds" 254,vf 255,vi 14 0,vi 0 0,vi 0 0,vi 0 0,vi 0 0,vr 66,Value.bool false,vi 181 0,vr 67,vn,vn,vn,vn,vi 256 0,vi 14 0,vf 257]
def o44:Obj:={ cls:=vt "frame",slots:=#[some (vr 68),some (vr 3),some (vr 65),none,some z2,none,some (vr 0)] }
def o45:Obj:=ot #[vs "" 263]
def o46:Obj:=ot #[vs "self" 267,vs "words" 268]
def o47:Obj:=gm "__init__" "BadBounds.__init__" 4 0
def o48:Obj:=oq "__init__" 264 "BadBounds.__init__" 265 266 16 2 71 72 (vr 73) (vr 74) (vr 75) 269 270
def o49:Obj:=fm "__init__" "BadBounds.__init__" 4 0 (vr 70) z2 (vr 76)
def o50 (P:Params):Obj:={ cls:=vt "dict",data:=Data.dict #[de P "__module__" 258 z2,de P "__firstlineno__" 262 (vi 14 261),de P "__init__" 271 (vr 77),de P "__static_attributes__" 272 (vr 78),de P "__doc__" 273 (vn)] 2 }
def o51:Obj:={ cls:=vt "type",data:=Data.cls { name:=u "BadBounds",bases:=[vr 39],mro:=[vr 80,vr 39,vt "ValueError",vt "Exception",vt "BaseException",vt "object"],ns:=79,qualname:=u "BadBounds" },slots:=#[some (vr 63),none,some (vs "BadBounds" 251),some (vs "BadBounds" 259),some (Value.builtin "ValueError.__new__"),some (vb)] }
def o52:Obj:={ cls:=vt "super",data:=Data.fields #[vr 80,vr 80,vr 80] }
def o53:Obj:={ cls:=vt "builtin_function_or_method",data:=Data.fields #[Value.builtin "object.__init_subclass__",vr 80] }
def o54 (P:Params):Obj:={ cls:=vt "dict",data:=Data.dict #[de P "__module__" 283 z2,de P "__qualname__" 285 (vs "BadTest" 284),de P "__firstlineno__" 287 (vi 18 286),de P "__init__" 296 (vr 97),de P "__static_attributes__" 297 (vr 98)] 5 }
def o55:Obj:={ cls:=vn,data:=Data.fields #[vi 20 0,vi 4 0,vr 96] }
def o56:Obj:=oc #[vs "BadTest" 278,vs "BadTest" 279,vf 280,vi 18 0,vi 0 0,vi 0 0,vi 0 0,vi 0 0,vr 86,Value.bool false,vi 181 0,vr 87,vn,vn,vn,vn,vi 281 0,vi 18 0,vf 282]
def o57:Obj:={ cls:=vt "frame",slots:=#[some (vr 88),some (vr 3),some (vr 85),none,some z2,none,some (vr 0)] }
def o58:Obj:=ot #[vs "" 288]
def o59:Obj:=ot #[vs "self" 292,vs "words" 293]
def o60:Obj:=gm "__init__" "BadTest.__init__" 5 0
def o61:Obj:=oq "__init__" 289 "BadTest.__init__" 290 291 20 2 91 92 (vr 93) (vr 94) (vr 95) 294 295
def o62:Obj:=fm "__init__" "BadTest.__init__" 5 0 (vr 90) z2 (vr 96)
def o63 (P:Params):Obj:={ cls:=vt "dict",data:=Data.dict #[de P "__module__" 283 z2,de P "__firstlineno__" 287 (vi 18 286),de P "__init__" 296 (vr 97),de P "__static_attributes__" 297 (vr 98),de P "__doc__" 298 (vn)] 2 }
def o64:Obj:={ cls:=vt "type",data:=Data.cls { name:=u "BadTest",bases:=[vr 39],mro:=[vr 100,vr 39,vt "ValueError",vt "Exception",vt "BaseException",vt "object"],ns:=99,qualname:=u "BadTest" },slots:=#[some (vr 83),none,some (vs "BadTest" 276),some (vs "BadTest" 284),some (Value.builtin "ValueError.__new__"),some (vb)] }
def o65:Obj:={ cls:=vt "super",data:=Data.fields #[vr 100,vr 100,vr 100] }
def o66:Obj:={ cls:=vt "builtin_function_or_method",data:=Data.fields #[Value.builtin "object.__init_subclass__",vr 100] }
def o67 (P:Params):Obj:={ cls:=vt "dict",data:=Data.dict #[de P "__module__" 308 z2,de P "__qualname__" 310 (vs "Taken" 309),de P "__firstlineno__" 312 (vi 22 311),de P "__init__" 321 (vr 117),de P "__static_attributes__" 322 (vr 118)] 5 }
def o68:Obj:={ cls:=vn,data:=Data.fields #[vi 24 0,vi 4 0,vr 116] }
def o69:Obj:=oc #[vs "Taken" 303,vs "Taken" 304,vf 305,vi 22 0,vi 0 0,vi 0 0,vi 0 0,vi 0 0,vr 106,Value.bool false,vi 181 0,vr 107,vn,vn,vn,vn,vi 306 0,vi 22 0,vf 307]
def o70:Obj:={ cls:=vt "frame",slots:=#[some (vr 108),some (vr 3),some (vr 105),none,some z2,none,some (vr 0)] }
def o71:Obj:=ot #[vs "" 313]
def o72:Obj:=ot #[vs "self" 317,vs "words" 318]
def o73:Obj:=gm "__init__" "Taken.__init__" 6 0
def o74:Obj:=oq "__init__" 314 "Taken.__init__" 315 316 24 2 111 112 (vr 113) (vr 114) (vr 115) 319 320
def o75:Obj:=fm "__init__" "Taken.__init__" 6 0 (vr 110) z2 (vr 116)
def o76 (P:Params):Obj:={ cls:=vt "dict",data:=Data.dict #[de P "__module__" 308 z2,de P "__firstlineno__" 312 (vi 22 311),de P "__init__" 321 (vr 117),de P "__static_attributes__" 322 (vr 118),de P "__doc__" 323 (vn)] 2 }
def o77:Obj:={ cls:=vt "type",data:=Data.cls { name:=u "Taken",bases:=[vr 39],mro:=[vr 120,vr 39,vt "ValueError",vt "Exception",vt "BaseException",vt "object"],ns:=119,qualname:=u "Taken" },slots:=#[some (vr 103),none,some (vs "Taken" 301),some (vs "Taken" 309),some (Value.builtin "ValueError.__new__"),some (vb)] }
def o78:Obj:={ cls:=vt "super",data:=Data.fields #[vr 120,vr 120,vr 120] }
def o79:Obj:={ cls:=vt "builtin_function_or_method",data:=Data.fields #[Value.builtin "object.__init_subclass__",vr 120] }
def o80 (P:Params):Obj:={ cls:=vt "dict",data:=Data.dict #[de P "__name__" 165 z3,de P "__doc__" 166 (vn),de P "__package__" 167 (vn),de P "__loader__" 168 (Value.builtin "__main__.__loader__#opaque"),de P "__spec__" 169 (vn),de P "__annotations__" 170 (vr 6),de P "__builtins__" 171 (vr 4),de P "__file__" 173 (vf 172),de P "__cached__" 174 (vn),de P "_wall" 193 (vr 21),de P "ScribeError" 225 (vr 39),de P "BadName" 250 (vr 60),de P "BadBounds" 275 (vr 80),de P "BadTest" 300 (vr 100),de P "Taken" 325 (vr 120),de P "Full" 350 (vr 140),de P "BadValue" 375 (vr 159),de P "Missing" 405 (vr 179),de P "LIMIT" 409 (vi 999999 408),de P "MOST_LETTERS" 411 (vi 8 410),de P "MOST_FIELDS" 413 (vi 4 412),de P "is_name" 420 (vr 189),de P "need_name" 427 (vr 196),de P "need_fields" 438 (vr 203),de P "bounds_text" 444 (vr 208),de P "Kind" 544 (vr 283)] 26 }
def o81:Obj:={ cls:=vn,data:=Data.fields #[vi 1 0,vi 0 0,vr 20,vi 5 0,vi 0 0,vr 27,vi 10 0,vi 0 0,vr 48,vi 14 0,vi 0 0,vr 68,vi 18 0,vi 0 0,vr 88,vi 22 0,vi 0 0,vr 108,vi 26 0,vi 0 0,vr 128,vi 30 0,vi 0 0,vr 148,vi 35 0,vi 0 0,vr 167,vi 44 0,vi 0 0,vr 188,vi 46 0,vi 0 0,vr 195,vi 49 0,vi 0 0,vr 202,vi 58 0,vi 0 0,vr 207,vi 60 0,vi 0 0,vr 214] }
def o82:Obj:={ cls:=vt "type",data:=Data.cls { name:=u "ScribeError",bases:=[vt "ValueError"],mro:=[vr 39,vt "ValueError",vt "Exception",vt "BaseException",vt "object"],ns:=38,qualname:=u "ScribeError",subclasses:=[vr 60,vr 80,vr 100,vr 120,vr 140,vr 159] },slots:=#[some (vr 22),none,some (vs "ScribeError" 196),some z5,some (Value.builtin "ValueError.__new__"),some (vb)] }
def o83 (P:Params):Obj:={ cls:=vt "dict",data:=Data.dict #[de P "__module__" 333 z2,de P "__qualname__" 335 (vs "Full" 334),de P "__firstlineno__" 337 (vi 26 336),de P "__init__" 346 (vr 137),de P "__static_attributes__" 347 (vr 138)] 5 }
def o84:Obj:={ cls:=vn,data:=Data.fields #[vi 28 0,vi 4 0,vr 136] }
def o85:Obj:=oc #[vs "Full" 328,vs "Full" 329,vf 330,vi 26 0,vi 0 0,vi 0 0,vi 0 0,vi 0 0,vr 126,Value.bool false,vi 181 0,vr 127,vn,vn,vn,vn,vi 331 0,vi 26 0,vf 332]
def o86:Obj:={ cls:=vt "frame",slots:=#[some (vr 128),some (vr 3),some (vr 125),none,some z2,none,some (vr 0)] }
def o87:Obj:=ot #[vs "" 338]
def o88:Obj:=ot #[vs "self" 342,vs "words" 343]
def o89:Obj:=gm "__init__" "Full.__init__" 7 0
def o90:Obj:=oq "__init__" 339 "Full.__init__" 340 341 28 2 131 132 (vr 133) (vr 134) (vr 135) 344 345
def o91:Obj:=fm "__init__" "Full.__init__" 7 0 (vr 130) z2 (vr 136)
def o92 (P:Params):Obj:={ cls:=vt "dict",data:=Data.dict #[de P "__module__" 333 z2,de P "__firstlineno__" 337 (vi 26 336),de P "__init__" 346 (vr 137),de P "__static_attributes__" 347 (vr 138),de P "__doc__" 348 (vn)] 2 }
def o93:Obj:={ cls:=vt "type",data:=Data.cls { name:=u "Full",bases:=[vr 39],mro:=[vr 140,vr 39,vt "ValueError",vt "Exception",vt "BaseException",vt "object"],ns:=139,qualname:=u "Full" },slots:=#[some (vr 123),none,some (vs "Full" 326),some (vs "Full" 334),some (Value.builtin "ValueError.__new__"),some (vb)] }
def o94:Obj:={ cls:=vt "super",data:=Data.fields #[vr 140,vr 140,vr 140] }
def o95:Obj:={ cls:=vt "builtin_function_or_method",data:=Data.fields #[Value.builtin "object.__init_subclass__",vr 140] }
def o96 (P:Params):Obj:={ cls:=vt "dict",data:=Data.dict #[de P "__module__" 358 z2,de P "__qualname__" 360 (vs "BadValue" 359),de P "__firstlineno__" 362 (vi 30 361),de P "__init__" 370 (vr 156),de P "__static_attributes__" 372 (vr 157)] 5 }
def o97:Obj:={ cls:=vn,data:=Data.fields #[vi 32 0,vi 4 0,vr 155] }
def o98:Obj:=oc #[vs "BadValue" 353,vs "BadValue" 354,vf 355,vi 30 0,vi 0 0,vi 0 0,vi 0 0,vi 0 0,vr 146,Value.bool false,vi 181 0,vr 147,vn,vn,vn,vn,vi 356 0,vi 30 0,vf 357]
def o99:Obj:={ cls:=vt "frame",slots:=#[some (vr 148),some (vr 3),some (vr 145),none,some z2,none,some (vr 0)] }
def o100:Obj:=ot #[vs "self" 366,vs "at" 367]
def o101:Obj:=gm "__init__" "BadValue.__init__" 8 0
def o102:Obj:=oq "__init__" 363 "BadValue.__init__" 364 365 32 2 150 151 (vr 152) (vr 153) (vr 154) 368 369
def o103:Obj:=fm "__init__" "BadValue.__init__" 8 0 vn z2 (vr 155)
def o104:Obj:=ot #[vs "at" 371]
def o105 (P:Params):Obj:={ cls:=vt "dict",data:=Data.dict #[de P "__module__" 358 z2,de P "__firstlineno__" 362 (vi 30 361),de P "__init__" 370 (vr 156),de P "__static_attributes__" 372 (vr 157),de P "__doc__" 373 (vn)] 2 }
def o106:Obj:={ cls:=vt "type",data:=Data.cls { name:=u "BadValue",bases:=[vr 39],mro:=[vr 159,vr 39,vt "ValueError",vt "Exception",vt "BaseException",vt "object"],ns:=158,qualname:=u "BadValue" },slots:=#[some (vr 143),none,some (vs "BadValue" 351),some (vs "BadValue" 359),some (Value.builtin "ValueError.__new__"),some (vb)] }
def o107:Obj:={ cls:=vt "super",data:=Data.fields #[vr 159,vr 159,vr 159] }
def o108:Obj:={ cls:=vt "builtin_function_or_method",data:=Data.fields #[Value.builtin "object.__init_subclass__",vr 159] }
def o109:Obj:=ot #[vt "LookupError"]
def o110 (P:Params):Obj:={ cls:=vt "dict",data:=Data.dict #[de P "__module__" 383 z2,de P "__qualname__" 385 (vs "Missing" 384),de P "__firstlineno__" 387 (vi 35 386),de P "__init__" 398 (vr 176),de P "__static_attributes__" 400 (vr 177)] 5 }
def o111:Obj:={ cls:=vn,data:=Data.fields #[vi 37 0,vi 4 0,vr 175] }
def o112:Obj:=oc #[vs "Missing" 378,vs "Missing" 379,vf 380,vi 35 0,vi 0 0,vi 0 0,vi 0 0,vi 0 0,vr 165,Value.bool false,vi 181 0,vr 166,vn,vn,vn,vn,vi 381 0,vi 35 0,vf 382]
def o113:Obj:={ cls:=vt "frame",slots:=#[some (vr 167),some (vr 3),some (vr 164),none,some z2,none,some (vr 0)] }
def o114:Obj:=ot #[vs "" 388,vs "missing" 389]
def o115:Obj:=ot #[vs "self" 393,vs "words" 394,vs "word" 395]
def o116:Obj:=gm "__init__" "Missing.__init__" 9 0
def o117:Obj:=oq "__init__" 390 "Missing.__init__" 391 392 37 3 170 171 (vr 172) (vr 173) (vr 174) 396 397
def o118:Obj:=fm "__init__" "Missing.__init__" 9 0 (vr 169) z2 (vr 175)
def o119:Obj:=ot #[vs "word" 399]
def o120 (P:Params):Obj:={ cls:=vt "dict",data:=Data.dict #[de P "__module__" 383 z2,de P "__firstlineno__" 387 (vi 35 386),de P "__init__" 398 (vr 176),de P "__static_attributes__" 400 (vr 177),de P "__weakref__" 402 (vr 180),de P "__doc__" 403 (vn)] 3 }
def o121:Obj:={ cls:=vt "type",data:=Data.cls { name:=u "Missing",bases:=[vt "LookupError"],mro:=[vr 179,vt "LookupError",vt "Exception",vt "BaseException",vt "object"],ns:=178,qualname:=u "Missing" },slots:=#[some (vr 162),none,some (vs "Missing" 376),some (vs "Missing" 384),some (Value.builtin "LookupError.__new__"),some (vb)] }
def o122:Obj:={ cls:=vt "getset_descriptor",data:=Data.fields #[vs "__weakref__" 401,vr 179,Value.builtin "ExceptionGroup.__weakref__",vn] }
def o123:Obj:={ cls:=vt "super",data:=Data.fields #[vr 179,vr 179,vr 179] }
def o124:Obj:={ cls:=vt "builtin_function_or_method",data:=Data.fields #[Value.builtin "object.__init_subclass__",vr 179] }
def o125:Obj:=ot #[vs "text" 417]
def o126:Obj:=gt "is_name" 14
def o127:Obj:=ok "is_name" 414 415 416 44 1 183 184 (vr 185) (vr 186) (vr 187) 418 419
def o128:Obj:=ft "is_name" 14 vn z3 (vr 188)
def o129:Obj:=ot #[vs "text" 424]
def o130:Obj:=gt "need_name" 15
def o131:Obj:=ok "need_name" 421 422 423 46 1 190 191 (vr 192) (vr 193) (vr 194) 425 426
def o132:Obj:=ft "need_name" 15 vn z3 (vr 195)
def o133:Obj:=ot #[vs "fields" 431,vs "seen" 432,vs "name" 433,vs "low" 434,vs "high" 435]
def o134:Obj:=gt "need_fields" 16
def o135:Obj:=ok "need_fields" 428 429 430 49 1 197 198 (vr 199) (vr 200) (vr 201) 436 437
def o136:Obj:=ft "need_fields" 16 vn z3 (vr 202)
def o137:Obj:=gt "bounds_text" 17
def o138:Obj:=ok "bounds_text" 439 440 441 58 1 204 205 vn vn (vr 206) 442 443
def o139:Obj:=ft "bounds_text" 17 vn z3 (vr 207)
def o140 (P:Params):Obj:={ cls:=vt "dict",data:=Data.dict #[de P "__module__" 452 z3,de P "__qualname__" 454 (vs "Kind" 453),de P "__firstlineno__" 456 (vi 60 455),de P "__init__" 465 (vr 224),de P "lowest" 472 (vr 231),de P "cells" 479 (vr 238),de P "place_of" 491 (vr 245),de P "need" 504 (vr 252),de P "__eq__" 512 (vr 259),de P "__len__" 519 (vr 266),de P "__str__" 526 (vr 273),de P "__repr__" 533 (vr 280),de P "__static_attributes__" 536 (vr 281)] 13 }
def o141:Obj:={ cls:=vn,data:=Data.fields #[vi 62 0,vi 4 0,vr 223,vi 70 0,vi 4 0,vr 230,vi 73 0,vi 4 0,vr 237,vi 76 0,vi 4 0,vr 244,vi 82 0,vi 4 0,vr 251,vi 89 0,vi 4 0,vr 258,vi 92 0,vi 4 0,vr 265,vi 95 0,vi 4 0,vr 272,vi 98 0,vi 4 0,vr 279] }
def o142:Obj:=oc #[vs "Kind" 447,vs "Kind" 448,vf 449,vi 60 0,vi 0 0,vi 0 0,vi 0 0,vi 0 0,vr 212,Value.bool false,vi 181 0,vr 213,vn,vn,vn,vn,vi 450 0,vi 60 0,vf 451]
def o143:Obj:={ cls:=vt "frame",slots:=#[some (vr 214),some (vr 3),some (vr 211),none,some z3,none,some (vr 0)] }
def o144:Obj:=ot #[vr 216]
def o145:Obj:=ot #[vs "self" 460,vs "name" 461,vs "fields" 462]
def o146:Obj:=gm "__init__" "Kind.__init__" 18 0
def o147:Obj:=oq "__init__" 457 "Kind.__init__" 458 459 62 3 218 219 (vr 220) (vr 221) (vr 222) 463 464
def o148:Obj:=fm "__init__" "Kind.__init__" 18 0 (vr 217) z3 (vr 223)
def o149:Obj:=ot #[vs "self" 469]
def o150:Obj:=gm "lowest" "Kind.lowest" 18 1
def o151:Obj:=oq "lowest" 466 "Kind.lowest" 467 468 70 1 225 226 (vr 227) (vr 228) (vr 229) 470 471
def o152:Obj:=fm "lowest" "Kind.lowest" 18 1 vn z3 (vr 230)
def o153:Obj:=ot #[vs "self" 476]
def o154:Obj:=gm "cells" "Kind.cells" 18 2
def o155:Obj:=oq "cells" 473 "Kind.cells" 474 475 73 1 232 233 (vr 234) (vr 235) (vr 236) 477 478
def o156:Obj:=fm "cells" "Kind.cells" 18 2 vn z3 (vr 237)
def o157:Obj:=ot #[vs "self" 483,vs "field" 484,vs "at" 485,vs "name" 486,vs "low" 487,vs "high" 488]
def o158:Obj:=gm "place_of" "Kind.place_of" 18 3
def o159:Obj:=oq "place_of" 480 "Kind.place_of" 481 482 76 2 239 240 (vr 241) (vr 242) (vr 243) 489 490
def o160:Obj:=fm "place_of" "Kind.place_of" 18 3 vn z3 (vr 244)
def o161:Obj:=ot #[vs "self" 495,vs "values" 496,vs "at" 497,vs "name" 498,vs "low" 499,vs "high" 500,vs "value" 501]
def o162:Obj:=gm "need" "Kind.need" 18 4
def o163:Obj:=oq "need" 492 "Kind.need" 493 494 82 2 246 247 (vr 248) (vr 249) (vr 250) 502 503
def o164:Obj:=fm "need" "Kind.need" 18 4 vn z3 (vr 251)
def o165:Obj:=ot #[vs "self" 508,vs "other" 509]
def o166:Obj:=gm "__eq__" "Kind.__eq__" 18 5
def o167:Obj:=oq "__eq__" 505 "Kind.__eq__" 506 507 89 2 253 254 (vr 255) (vr 256) (vr 257) 510 511
def o168:Obj:=fm "__eq__" "Kind.__eq__" 18 5 vn z3 (vr 258)
def o169:Obj:=ot #[vs "self" 516]
def o170:Obj:=gm "__len__" "Kind.__len__" 18 6
def o171:Obj:=oq "__len__" 513 "Kind.__len__" 514 515 92 1 260 261 (vr 262) (vr 263) (vr 264) 517 518
def o172:Obj:=fm "__len__" "Kind.__len__" 18 6 vn z3 (vr 265)
def o173:Obj:=ot #[vs "self" 523]
def o174:Obj:=gm "__str__" "Kind.__str__" 18 7
def o175:Obj:=oq "__str__" 520 "Kind.__str__" 521 522 95 1 267 268 (vr 269) (vr 270) (vr 271) 524 525
def o176:Obj:=fm "__str__" "Kind.__str__" 18 7 vn z3 (vr 272)
def o177:Obj:=ot #[vs "self" 530]
def o178:Obj:=gm "__repr__" "Kind.__repr__" 18 8
def o179:Obj:=oq "__repr__" 527 "Kind.__repr__" 528 529 98 1 274 275 (vr 276) (vr 277) (vr 278) 531 532
def o180:Obj:=fm "__repr__" "Kind.__repr__" 18 8 vn z3 (vr 279)
def o181:Obj:=ot #[vs "fields" 534,vs "name" 535]
def o182 (P:Params):Obj:={ cls:=vt "dict",data:=Data.dict #[de P "__module__" 452 z3,de P "__firstlineno__" 456 (vi 60 455),de P "__init__" 465 (vr 224),de P "lowest" 472 (vr 231),de P "cells" 479 (vr 238),de P "place_of" 491 (vr 245),de P "need" 504 (vr 252),de P "__eq__" 512 (vr 259),de P "__len__" 519 (vr 266),de P "__str__" 526 (vr 273),de P "__repr__" 533 (vr 280),de P "__static_attributes__" 536 (vr 281),de P "__dict__" 538 (vr 284),de P "__weakref__" 540 (vr 285),de P "__doc__" 541 (vn),de P "__hash__" 542 (vn)] 5 }
def o183:Obj:={ cls:=vt "type",data:=Data.cls { name:=u "Kind",bases:=[vt "object"],mro:=[vr 283,vt "object"],ns:=282,qualname:=u "Kind" },slots:=#[none,none,some (vs "Kind" 445),some (vs "Kind" 453),some (Value.builtin "object.__new__"),some (vb)] }
def o184:Obj:={ cls:=vt "getset_descriptor",data:=Data.fields #[vs "__dict__" 537,vr 283,Value.builtin "function.__dict__",Value.builtin "function.__dict__#set"] }
def o185:Obj:={ cls:=vt "getset_descriptor",data:=Data.fields #[vs "__weakref__" 539,vr 283,Value.builtin "ExceptionGroup.__weakref__",vn] }
def o186:Obj:={ cls:=vt "super",data:=Data.fields #[vr 283,vr 283,vr 283] }
def o187:Obj:={ cls:=vt "builtin_function_or_method",data:=Data.fields #[Value.builtin "object.__init_subclass__",vr 283] }
def o188 (P:Params):Obj:={ cls:=vt "dict",data:=Data.dict #[de P "__name__" 165 z1,de P "__doc__" 166 (vn),de P "__package__" 167 (vn),de P "__loader__" 168 (Value.builtin "__main__.__loader__#opaque"),de P "__spec__" 169 (vn),de P "__annotations__" 170 (vr 6),de P "__builtins__" 171 (vr 4),de P "__file__" 173 (vf 172),de P "__cached__" 174 (vn),de P "_wall" 193 (vr 21),de P "ScribeError" 225 (vr 39),de P "BadName" 250 (vr 60),de P "BadBounds" 275 (vr 80),de P "BadTest" 300 (vr 100),de P "Taken" 325 (vr 120),de P "Full" 350 (vr 140),de P "BadValue" 375 (vr 159),de P "Missing" 405 (vr 179),de P "LIMIT" 409 (vi 999999 408),de P "MOST_LETTERS" 411 (vi 8 410),de P "MOST_FIELDS" 413 (vi 4 412),de P "is_name" 420 (vr 189),de P "need_name" 427 (vr 196),de P "need_fields" 438 (vr 203),de P "bounds_text" 444 (vr 208),de P "Kind" 544 (vr 283),de P "MOST_PARTS" 548 (vi 15 547),de P "MOST_DEEP" 550 (vi 5 549),de P "WITHIN" 560 (vr 288),de P "SIGN_OF" 567 (vr 289),de P "is_word" 574 (vr 296),de P "is_number" 581 (vr 303),de P "is_leaf" 589 (vr 310),de P "count_parts" 595 (vr 315),de P "is_test" 602 (vr 322),de P "need_test" 609 (vr 329),de P "holds" 618 (vr 336),de P "passes" 628 (vr 343),de P "passes_leaf" 639 (vr 350),de P "_law_begin" 650 (vr 357),de P "_law_pick" 661 (vr 364),de P "_law_of" 669 (vr 371),de P "_law_far" 677 (vr 378),de P "_law_same" 683 (vr 383),de P "_law_word" 689 (vr 388),de P "_law_words" 701 (vr 395),de P "_law_bound" 709 (vr 402),de P "_law_fields" 722 (vr 409),de P "_law_value" 733 (vr 416),de P "_law_is_name" 739 (vr 421),de P "_law_ask" 749 (vr 428),de P "_law_odd_name" 758 (vr 435),de P "_law_bent_values" 771 (vr 442),de P "_law_values_word" 781 (vr 449),de P "_law_number" 788 (vr 456),de P "_law_leaf" 798 (vr 463),de P "_law_tree" 810 (vr 470),de P "_law_parts" 816 (vr 475),de P "_law_deep" 822 (vr 480),de P "_law_test" 832 (vr 487)] 60 }
def o189:Obj:={ cls:=vn,data:=Data.fields #[vi 1 0,vi 0 0,vr 20,vi 5 0,vi 0 0,vr 27,vi 10 0,vi 0 0,vr 48,vi 14 0,vi 0 0,vr 68,vi 18 0,vi 0 0,vr 88,vi 22 0,vi 0 0,vr 108,vi 26 0,vi 0 0,vr 128,vi 30 0,vi 0 0,vr 148,vi 35 0,vi 0 0,vr 167,vi 44 0,vi 0 0,vr 188,vi 46 0,vi 0 0,vr 195,vi 49 0,vi 0 0,vr 202,vi 58 0,vi 0 0,vr 207,vi 60 0,vi 0 0,vr 214,vi 105 0,vi 0 0,vr 295,vi 107 0,vi 0 0,vr 302,vi 109 0,vi 0 0,vr 309,vi 116 0,vi 0 0,vr 314,vi 125 0,vi 0 0,vr 321,vi 127 0,vi 0 0,vr 328,vi 130 0,vi 0 0,vr 335,vi 134 0,vi 0 0,vr 342,vi 143 0,vi 0 0,vr 349,vi 154 0,vi 0 0,vr 356,vi 159 0,vi 0 0,vr 363,vi 174 0,vi 0 0,vr 370,vi 176 0,vi 0 0,vr 377,vi 179 0,vi 0 0,vr 382,vi 189 0,vi 0 0,vr 387,vi 195 0,vi 0 0,vr 394,vi 204 0,vi 0 0,vr 401,vi 207 0,vi 0 0,vr 408,vi 215 0,vi 0 0,vr 415,vi 218 0,vi 0 0,vr 420,vi 220 0,vi 0 0,vr 427,vi 232 0,vi 0 0,vr 434,vi 235 0,vi 0 0,vr 441,vi 247 0,vi 0 0,vr 448,vi 253 0,vi 0 0,vr 455,vi 255 0,vi 0 0,vr 462,vi 262 0,vi 0 0,vr 469,vi 270 0,vi 0 0,vr 474,vi 274 0,vi 0 0,vr 479,vi 278 0,vi 0 0,vr 486] }
def o190 (P:Params):Obj:={ cls:=vt "dict",data:=Data.dict #[de P "not" 551 (vi 1 552),de P "and" 553 (vi 2 554),de P "or" 555 (vi 2 556)] 3 }
def o191 (P:Params):Obj:={ cls:=vt "dict",data:=Data.dict #[de P "less" 561 (vs "<" 562),de P "same" 563 (vs "=" 564)] 2 }
def o192:Obj:=ot #[vs "thing" 571]
def o193:Obj:=gt "is_word" 24
def o194:Obj:=ok "is_word" 568 569 570 105 1 290 291 (vr 292) (vr 293) (vr 294) 572 573
def o195:Obj:=ft "is_word" 24 vn z4 (vr 295)
def o196:Obj:=ot #[vs "thing" 578]
def o197:Obj:=gt "is_number" 25
def o198:Obj:=ok "is_number" 575 576 577 107 1 297 298 (vr 299) (vr 300) (vr 301) 579 580
def o199:Obj:=ft "is_number" 25 vn z4 (vr 302)
def o200:Obj:=ot #[vs "test" 585,vs "form" 586]
def o201:Obj:=gt "is_leaf" 26
def o202:Obj:=ok "is_leaf" 582 583 584 109 1 304 305 (vr 306) (vr 307) (vr 308) 587 588
def o203:Obj:=ft "is_leaf" 26 vn z4 (vr 309)
def o204:Obj:=gt "count_parts" 27
def o205:Obj:=ok "count_parts" 590 591 592 116 2 311 312 vn vn (vr 313) 593 594
def o206:Obj:=ft "count_parts" 27 vn z4 (vr 314)
def o207:Obj:=ot #[vs "test" 599]
def o208:Obj:=gt "is_test" 28
def o209:Obj:=ok "is_test" 596 597 598 125 1 316 317 (vr 318) (vr 319) (vr 320) 600 601
def o210:Obj:=ft "is_test" 28 vn z4 (vr 321)
def o211:Obj:=ot #[vs "test" 606]
def o212:Obj:=gt "need_test" 29
def o213:Obj:=ok "need_test" 603 604 605 127 1 323 324 (vr 325) (vr 326) (vr 327) 607 608
def o214:Obj:=ft "need_test" 29 vn z4 (vr 328)
def o215:Obj:=ot #[vs "test" 613,vs "kind" 614,vs "values" 615]
def o216:Obj:=gt "holds" 30
def o217:Obj:=ok "holds" 610 611 612 130 3 330 331 (vr 332) (vr 333) (vr 334) 616 617
def o218:Obj:=ft "holds" 30 vn z4 (vr 335)
def o219:Obj:=ot #[vs "test" 622,vs "kind" 623,vs "values" 624,vs "form" 625]
def o220:Obj:=gt "passes" 31
def o221:Obj:=ok "passes" 619 620 621 134 3 337 338 (vr 339) (vr 340) (vr 341) 626 627
def o222:Obj:=ft "passes" 31 vn z4 (vr 342)
def o223:Obj:=ot #[vs "leaf" 632,vs "kind" 633,vs "values" 634,vs "form" 635,vs "place" 636]
def o224:Obj:=gt "passes_leaf" 32
def o225:Obj:=ok "passes_leaf" 629 630 631 143 3 344 345 (vr 346) (vr 347) (vr 348) 637 638
def o226:Obj:=ft "passes_leaf" 32 vn z4 (vr 349)
def o227:Obj:=ot #[vs "_law_script" 645,vs "_law_seed" 646,vs "_law_cell" 647]
def o228:Obj:=gt "_law_begin" 34
def o229:Obj:=ok "_law_begin" 642 643 644 154 1 351 352 (vr 353) (vr 354) (vr 355) 648 649
def o230:Obj:=ft "_law_begin" 34 vn z1 (vr 356)
def o231:Obj:=ot #[vs "_law_d" 654,vs "_law_many" 655,vs "_law_cell" 656,vs "_law_digit" 657,vs "_law_one" 658]
def o232:Obj:=gt "_law_pick" 35
def o233:Obj:=ok "_law_pick" 651 652 653 159 2 358 359 (vr 360) (vr 361) (vr 362) 659 660
def o234:Obj:=ft "_law_pick" 35 vn z1 (vr 363)
def o235:Obj:=ot #[vs "_law_d" 665,vs "_law_things" 666]
def o236:Obj:=gt "_law_of" 36
def o237:Obj:=ok "_law_of" 662 663 664 174 2 365 366 (vr 367) (vr 368) (vr 369) 667 668
def o238:Obj:=ft "_law_of" 36 vn z1 (vr 370)
def o239:Obj:=ot #[vs "_law_d" 673,vs "_law_number_here" 674]
def o240:Obj:=gt "_law_far" 37
def o241:Obj:=ok "_law_far" 670 671 672 176 1 372 373 (vr 374) (vr 375) (vr 376) 675 676
def o242:Obj:=ft "_law_far" 37 vn z1 (vr 377)
def o243:Obj:=gt "_law_same" 38
def o244:Obj:=ok "_law_same" 678 679 680 179 2 379 380 vn vn (vr 381) 681 682
def o245:Obj:=ft "_law_same" 38 vn z1 (vr 382)
def o246:Obj:=gt "_law_word" 39
def o247:Obj:=ok "_law_word" 684 685 686 189 1 384 385 vn vn (vr 386) 687 688
def o248:Obj:=ft "_law_word" 39 vn z1 (vr 387)
def o249:Obj:=ot #[vs "_law_d" 693,vs "_law_many" 694,vs "_law_found" 695,vs "_law_k" 696,vs "_law_word_here" 697,vs "_law_step" 698]
def o250:Obj:=gt "_law_words" 40
def o251:Obj:=ok "_law_words" 690 691 692 195 2 389 390 (vr 391) (vr 392) (vr 393) 699 700
def o252:Obj:=ft "_law_words" 40 vn z1 (vr 394)
def o253:Obj:=ot #[vs "_law_d" 705,vs "_law_near" 706]
def o254:Obj:=gt "_law_bound" 41
def o255:Obj:=ok "_law_bound" 702 703 704 204 1 396 397 (vr 398) (vr 399) (vr 400) 707 708
def o256:Obj:=ft "_law_bound" 41 vn z1 (vr 401)
def o257:Obj:=ot #[vs "_law_d" 713,vs "_law_many" 714,vs "_law_names" 715,vs "_law_found" 716,vs "_law_title" 717,vs "_law_low" 718,vs "_law_high" 719]
def o258:Obj:=gt "_law_fields" 42
def o259:Obj:=ok "_law_fields" 710 711 712 207 2 403 404 (vr 405) (vr 406) (vr 407) 720 721
def o260:Obj:=ft "_law_fields" 42 vn z1 (vr 408)
def o261:Obj:=ot #[vs "_law_d" 726,vs "_law_field" 727,vs "_law_title" 728,vs "_law_low" 729,vs "_law_high" 730]
def o262:Obj:=gt "_law_value" 43
def o263:Obj:=ok "_law_value" 723 724 725 215 2 410 411 (vr 412) (vr 413) (vr 414) 731 732
def o264:Obj:=ft "_law_value" 43 vn z1 (vr 415)
def o265:Obj:=gt "_law_is_name" 44
def o266:Obj:=ok "_law_is_name" 734 735 736 218 1 417 418 vn vn (vr 419) 737 738
def o267:Obj:=ft "_law_is_name" 44 vn z1 (vr 420)
def o268:Obj:=ot #[vs "_law_ask_here" 743,vs "_law_told" 744,vs "_law_word_here" 745,vs "e" 746]
def o269:Obj:=gt "_law_ask" 45
def o270:Obj:=ok "_law_ask" 740 741 742 220 1 422 423 (vr 424) (vr 425) (vr 426) 747 748
def o271:Obj:=ft "_law_ask" 45 vn z1 (vr 427)
def o272:Obj:=ot #[vs "_law_d" 753,vs "_law_text" 754,vs "_law_odd" 755]
def o273:Obj:=gt "_law_odd_name" 46
def o274:Obj:=ok "_law_odd_name" 750 751 752 232 2 429 430 (vr 431) (vr 432) (vr 433) 756 757
def o275:Obj:=ft "_law_odd_name" 46 vn z1 (vr 434)
def o276:Obj:=ot #[vs "_law_d" 762,vs "_law_fields_here" 763,vs "_law_values" 764,vs "_law_some" 765,vs "_law_step" 766,vs "_law_at" 767,vs "_law_way" 768]
def o277:Obj:=gt "_law_bent_values" 47
def o278:Obj:=ok "_law_bent_values" 759 760 761 235 3 436 437 (vr 438) (vr 439) (vr 440) 769 770
def o279:Obj:=ft "_law_bent_values" 47 vn z1 (vr 441)
def o280:Obj:=ot #[vs "_law_fields_here" 775,vs "_law_values" 776,vs "_law_least" 777,vs "_law_at" 778]
def o281:Obj:=gt "_law_values_word" 48
def o282:Obj:=ok "_law_values_word" 772 773 774 247 2 443 444 (vr 445) (vr 446) (vr 447) 779 780
def o283:Obj:=ft "_law_values_word" 48 vn z1 (vr 448)
def o284:Obj:=ot #[vs "_law_d" 785]
def o285:Obj:=gt "_law_number" 49
def o286:Obj:=ok "_law_number" 782 783 784 253 1 450 451 (vr 452) (vr 453) (vr 454) 786 787
def o287:Obj:=ft "_law_number" 49 vn z1 (vr 455)
def o288:Obj:=ot #[vs "_law_d" 792,vs "_law_names" 793,vs "_law_kinds" 794,vs "_law_way" 795]
def o289:Obj:=gt "_law_leaf" 50
def o290:Obj:=ok "_law_leaf" 789 790 791 255 3 457 458 (vr 459) (vr 460) (vr 461) 796 797
def o291:Obj:=ft "_law_leaf" 50 vn z1 (vr 462)
def o292:Obj:=ot #[vs "_law_d" 802,vs "_law_deep_here" 803,vs "_law_names" 804,vs "_law_kinds" 805,vs "_law_way" 806,vs "_law_word_here" 807]
def o293:Obj:=gt "_law_tree" 51
def o294:Obj:=ok "_law_tree" 799 800 801 262 4 464 465 (vr 466) (vr 467) (vr 468) 808 809
def o295:Obj:=ft "_law_tree" 51 vn z1 (vr 469)
def o296:Obj:=gt "_law_parts" 52
def o297:Obj:=ok "_law_parts" 811 812 813 270 1 471 472 vn vn (vr 473) 814 815
def o298:Obj:=ft "_law_parts" 52 vn z1 (vr 474)
def o299:Obj:=gt "_law_deep" 53
def o300:Obj:=ok "_law_deep" 817 818 819 274 1 476 477 vn vn (vr 478) 820 821
def o301:Obj:=ft "_law_deep" 53 vn z1 (vr 479)
def o302:Obj:=ot #[vs "_law_d" 826,vs "_law_names" 827,vs "_law_kinds" 828,vs "_law_test_here" 829]
def o303:Obj:=gt "_law_test" 54
def o304:Obj:=ok "_law_test" 823 824 825 278 3 481 482 (vr 483) (vr 484) (vr 485) 830 831
def o305:Obj:=ft "_law_test" 54 vn z1 (vr 486)
def KK:Params->Frag:=fun P=>
 (nat_lit 2,{ cls:=vn,data:=Data.dict #[] })::
 (nat_lit 3,{ cls:=vt "dict",data:=Data.dict #[de P "__name__" 165 z1,de P "__doc__" 166 (vn),de P "__package__" 167 (vn),de P "__loader__" 168 (Value.builtin "__main__.__loader__#opaque"),de P "__spec__" 169 (vn),de P "__annotations__" 170 (vr 6),de P "__builtins__" 171 (vr 4),de P "__file__" 173 (vf 172),de P "__cached__" 174 (vn),de P "_wall" 193 (vr 21),de P "ScribeError" 225 (vr 39),de P "BadName" 250 (vr 60),de P "BadBounds" 275 (vr 80),de P "BadTest" 300 (vr 100),de P "Taken" 325 (vr 120),de P "Full" 350 (vr 140),de P "BadValue" 375 (vr 159),de P "Missing" 405 (vr 179),de P "LIMIT" 409 (vi 999999 408),de P "MOST_LETTERS" 411 (vi 8 410),de P "MOST_FIELDS" 413 (vi 4 412),de P "is_name" 420 (vr 189),de P "need_name" 427 (vr 196),de P "need_fields" 438 (vr 203),de P "bounds_text" 444 (vr 208),de P "Kind" 544 (vr 283),de P "MOST_PARTS" 548 (vi 15 547),de P "MOST_DEEP" 550 (vi 5 549),de P "WITHIN" 560 (vr 288),de P "SIGN_OF" 567 (vr 289),de P "is_word" 574 (vr 296),de P "is_number" 581 (vr 303),de P "is_leaf" 589 (vr 310),de P "count_parts" 595 (vr 315),de P "is_test" 602 (vr 322),de P "need_test" 609 (vr 329),de P "holds" 618 (vr 336),de P "passes" 628 (vr 343),de P "passes_leaf" 639 (vr 350),de P "_law_begin" 650 (vr 357),de P "_law_pick" 661 (vr 364),de P "_law_of" 669 (vr 371),de P "_law_far" 677 (vr 378),de P "_law_same" 683 (vr 383),de P "_law_word" 689 (vr 388),de P "_law_words" 701 (vr 395),de P "_law_bound" 709 (vr 402),de P "_law_fields" 722 (vr 409),de P "_law_value" 733 (vr 416),de P "_law_is_name" 739 (vr 421),de P "_law_ask" 749 (vr 428),de P "_law_odd_name" 758 (vr 435),de P "_law_bent_values" 771 (vr 442),de P "_law_values_word" 781 (vr 449),de P "_law_number" 788 (vr 456),de P "_law_leaf" 798 (vr 463),de P "_law_tree" 810 (vr 470),de P "_law_parts" 816 (vr 475),de P "_law_deep" 822 (vr 480),de P "_law_test" 832 (vr 487),de P "_law_leaf_ok" 839 (vr 494),de P "_law_shape_ok" 846 (vr 501),de P "_law_test_ok" 853 (vr 508),de P "_law_bent_test" 863 (vr 515),de P "_law_passes" 869 (vr 520),de P "_law_kind_of" 877 (vr 527),de P "_law_names_of" 883 (vr 532),de P "_law_near_values" 889 (vr 537),de P "_law_leaves_any" 898 (vr 544),de P "law" 915 (vr 551)] 70 })::
 (nat_lit 15,o0)::
 (nat_lit 17,o6)::
 (nat_lit 18,o0)::
 (nat_lit 20,o8)::
 (nat_lit 21,o9)::
 (nat_lit 22,o10)::
 (nat_lit 29,o16)::
 (nat_lit 30,o0)::
 (nat_lit 32,o17)::
 (nat_lit 33,o0)::
 (nat_lit 35,o19)::
 (nat_lit 36,o20)::
 (nat_lit 37,o21)::
 (nat_lit 38,o22 P)::
 (nat_lit 39,o82)::
 (nat_lit 40,o24)::
 (nat_lit 43,o27)::
 (nat_lit 50,o32)::
 (nat_lit 51,o0)::
 (nat_lit 53,o33)::
 (nat_lit 54,o0)::
 (nat_lit 56,o35)::
 (nat_lit 57,o36)::
 (nat_lit 58,o0)::
 (nat_lit 59,o37 P)::
 (nat_lit 60,o38)::
 (nat_lit 63,o27)::
 (nat_lit 70,o45)::
 (nat_lit 71,o0)::
 (nat_lit 73,o46)::
 (nat_lit 74,o0)::
 (nat_lit 76,o48)::
 (nat_lit 77,o49)::
 (nat_lit 78,o0)::
 (nat_lit 79,o50 P)::
 (nat_lit 80,o51)::
 (nat_lit 83,o27)::
 (nat_lit 90,o58)::
 (nat_lit 91,o0)::
 (nat_lit 93,o59)::
 (nat_lit 94,o0)::
 (nat_lit 96,o61)::
 (nat_lit 97,o62)::
 (nat_lit 98,o0)::
 (nat_lit 99,o63 P)::
 (nat_lit 100,o64)::
 (nat_lit 103,o27)::
 (nat_lit 110,o71)::
 (nat_lit 111,o0)::
 (nat_lit 113,o72)::
 (nat_lit 114,o0)::
 (nat_lit 116,o74)::
 (nat_lit 117,o75)::
 (nat_lit 118,o0)::
 (nat_lit 119,o76 P)::
 (nat_lit 120,o77)::
 (nat_lit 123,o27)::
 (nat_lit 130,o87)::
 (nat_lit 131,o0)::
 (nat_lit 133,o88)::
 (nat_lit 134,o0)::
 (nat_lit 136,o90)::
 (nat_lit 137,o91)::
 (nat_lit 138,o0)::
 (nat_lit 139,o92 P)::
 (nat_lit 140,o93)::
 (nat_lit 143,o27)::
 (nat_lit 150,o0)::
 (nat_lit 152,o100)::
 (nat_lit 153,o0)::
 (nat_lit 155,o102)::
 (nat_lit 156,o103)::
 (nat_lit 157,o104)::
 (nat_lit 158,o105 P)::
 (nat_lit 159,o106)::
 (nat_lit 162,o109)::
 (nat_lit 169,o114)::
 (nat_lit 170,o0)::
 (nat_lit 172,o115)::
 (nat_lit 173,o0)::
 (nat_lit 175,o117)::
 (nat_lit 176,o118)::
 (nat_lit 177,o119)::
 (nat_lit 178,o120 P)::
 (nat_lit 179,o121)::
 (nat_lit 180,o122)::
 (nat_lit 183,o0)::
 (nat_lit 185,o125)::
 (nat_lit 186,o0)::
 (nat_lit 188,o127)::
 (nat_lit 189,o128)::
 (nat_lit 190,o0)::
 (nat_lit 192,o129)::
 (nat_lit 193,o0)::
 (nat_lit 195,o131)::
 (nat_lit 196,o132)::
 (nat_lit 197,o0)::
 (nat_lit 199,o133)::
 (nat_lit 200,o0)::
 (nat_lit 202,o135)::
 (nat_lit 203,o136)::
 (nat_lit 204,o0)::
 (nat_lit 207,o138)::
 (nat_lit 208,o139)::
 (nat_lit 216,o0)::
 (nat_lit 217,o144)::
 (nat_lit 218,o0)::
 (nat_lit 220,o145)::
 (nat_lit 221,o0)::
 (nat_lit 223,o147)::
 (nat_lit 224,o148)::
 (nat_lit 225,o0)::
 (nat_lit 227,o149)::
 (nat_lit 228,o0)::
 (nat_lit 230,o151)::
 (nat_lit 231,o152)::
 (nat_lit 232,o0)::
 (nat_lit 234,o153)::
 (nat_lit 235,o0)::
 (nat_lit 237,o155)::
 (nat_lit 238,o156)::
 (nat_lit 239,o0)::
 (nat_lit 241,o157)::
 (nat_lit 242,o0)::
 (nat_lit 244,o159)::
 (nat_lit 245,o160)::
 (nat_lit 246,o0)::
 (nat_lit 248,o161)::
 (nat_lit 249,o0)::
 (nat_lit 251,o163)::
 (nat_lit 252,o164)::
 (nat_lit 253,o0)::
 (nat_lit 255,o165)::
 (nat_lit 256,o0)::
 (nat_lit 258,o167)::
 (nat_lit 259,o168)::
 (nat_lit 260,o0)::
 (nat_lit 262,o169)::
 (nat_lit 263,o0)::
 (nat_lit 265,o171)::
 (nat_lit 266,o172)::
 (nat_lit 267,o0)::
 (nat_lit 269,o173)::
 (nat_lit 270,o0)::
 (nat_lit 272,o175)::
 (nat_lit 273,o176)::
 (nat_lit 274,o0)::
 (nat_lit 276,o177)::
 (nat_lit 277,o0)::
 (nat_lit 279,o179)::
 (nat_lit 280,o180)::
 (nat_lit 281,o181)::
 (nat_lit 282,o182 P)::
 (nat_lit 283,o183)::
 (nat_lit 284,o184)::
 (nat_lit 285,o185)::
 (nat_lit 288,o190 P)::
 (nat_lit 289,o191 P)::
 (nat_lit 290,o0)::
 (nat_lit 292,o192)::
 (nat_lit 293,o0)::
 (nat_lit 295,o194)::
 (nat_lit 296,o195)::
 (nat_lit 297,o0)::
 (nat_lit 299,o196)::
 (nat_lit 300,o0)::
 (nat_lit 302,o198)::
 (nat_lit 303,o199)::
 (nat_lit 304,o0)::
 (nat_lit 306,o200)::
 (nat_lit 307,o0)::
 (nat_lit 309,o202)::
 (nat_lit 310,o203)::
 (nat_lit 311,o0)::
 (nat_lit 314,o205)::
 (nat_lit 315,o206)::
 (nat_lit 316,o0)::
 (nat_lit 318,o207)::
 (nat_lit 319,o0)::
 (nat_lit 321,o209)::
 (nat_lit 322,o210)::
 (nat_lit 323,o0)::
 (nat_lit 325,o211)::
 (nat_lit 326,o0)::
 (nat_lit 328,o213)::
 (nat_lit 329,o214)::
 (nat_lit 330,o0)::
 (nat_lit 332,o215)::
 (nat_lit 333,o0)::
 (nat_lit 335,o217)::
 (nat_lit 336,o218)::
 (nat_lit 337,o0)::
 (nat_lit 339,o219)::
 (nat_lit 340,o0)::
 (nat_lit 342,o221)::
 (nat_lit 343,o222)::
 (nat_lit 344,o0)::
 (nat_lit 346,o223)::
 (nat_lit 347,o0)::
 (nat_lit 349,o225)::
 (nat_lit 350,o226)::
 (nat_lit 351,o0)::
 (nat_lit 353,o227)::
 (nat_lit 354,o0)::
 (nat_lit 356,o229)::
 (nat_lit 357,o230)::
 (nat_lit 358,o0)::
 (nat_lit 360,o231)::
 (nat_lit 361,o0)::
 (nat_lit 363,o233)::
 (nat_lit 364,o234)::
 (nat_lit 365,o0)::
 (nat_lit 367,o235)::
 (nat_lit 368,o0)::
 (nat_lit 370,o237)::
 (nat_lit 371,o238)::
 (nat_lit 372,o0)::
 (nat_lit 374,o239)::
 (nat_lit 375,o0)::
 (nat_lit 377,o241)::
 (nat_lit 378,o242)::
 (nat_lit 379,o0)::
 (nat_lit 382,o244)::
 (nat_lit 383,o245)::
 (nat_lit 384,o0)::
 (nat_lit 387,o247)::
 (nat_lit 388,o248)::
 (nat_lit 389,o0)::
 (nat_lit 391,o249)::
 (nat_lit 392,o0)::
 (nat_lit 394,o251)::
 (nat_lit 395,o252)::
 (nat_lit 396,o0)::
 (nat_lit 398,o253)::
 (nat_lit 399,o0)::
 (nat_lit 401,o255)::
 (nat_lit 402,o256)::
 (nat_lit 403,o0)::
 (nat_lit 405,o257)::
 (nat_lit 406,o0)::
 (nat_lit 408,o259)::
 (nat_lit 409,o260)::
 (nat_lit 410,o0)::
 (nat_lit 412,o261)::
 (nat_lit 413,o0)::
 (nat_lit 415,o263)::
 (nat_lit 416,o264)::
 (nat_lit 417,o0)::
 (nat_lit 420,o266)::
 (nat_lit 421,o267)::
 (nat_lit 422,o0)::
 (nat_lit 424,o268)::
 (nat_lit 425,o0)::
 (nat_lit 427,o270)::
 (nat_lit 428,o271)::
 (nat_lit 429,o0)::
 (nat_lit 431,o272)::
 (nat_lit 432,o0)::
 (nat_lit 434,o274)::
 (nat_lit 435,o275)::
 (nat_lit 436,o0)::
 (nat_lit 438,o276)::
 (nat_lit 439,o0)::
 (nat_lit 441,o278)::
 (nat_lit 442,o279)::
 (nat_lit 443,o0)::
 (nat_lit 445,o280)::
 (nat_lit 446,o0)::
 (nat_lit 448,o282)::
 (nat_lit 449,o283)::
 (nat_lit 450,o0)::
 (nat_lit 452,o284)::
 (nat_lit 453,o0)::
 (nat_lit 455,o286)::
 (nat_lit 456,o287)::
 (nat_lit 457,o0)::
 (nat_lit 459,o288)::
 (nat_lit 460,o0)::
 (nat_lit 462,o290)::
 (nat_lit 463,o291)::
 (nat_lit 464,o0)::
 (nat_lit 466,o292)::
 (nat_lit 467,o0)::
 (nat_lit 469,o294)::
 (nat_lit 470,o295)::
 (nat_lit 471,o0)::
 (nat_lit 474,o297)::
 (nat_lit 475,o298)::
 (nat_lit 476,o0)::
 (nat_lit 479,o300)::
 (nat_lit 480,o301)::
 (nat_lit 481,o0)::
 (nat_lit 483,o302)::
 (nat_lit 484,o0)::
 (nat_lit 486,o304)::
 (nat_lit 487,o305)::
 (nat_lit 488,o0)::
 (nat_lit 490,ot #[vs "_law_test_here" 836])::
 (nat_lit 491,o0)::
 (nat_lit 493,ok "_law_leaf_ok" 833 834 835 281 1 488 489 (vr 490) (vr 491) (vr 492) 837 838)::
 (nat_lit 494,ft "_law_leaf_ok" 55 vn z1 (vr 493))::
 (nat_lit 495,o0)::
 (nat_lit 497,ot #[vs "_law_test_here" 843])::
 (nat_lit 498,o0)::
 (nat_lit 500,ok "_law_shape_ok" 840 841 842 291 1 495 496 (vr 497) (vr 498) (vr 499) 844 845)::
 (nat_lit 501,ft "_law_shape_ok" 56 vn z1 (vr 500))::
 (nat_lit 502,o0)::
 (nat_lit 504,ot #[vs "_law_test_here" 850])::
 (nat_lit 505,o0)::
 (nat_lit 507,ok "_law_test_ok" 847 848 849 299 1 502 503 (vr 504) (vr 505) (vr 506) 851 852)::
 (nat_lit 508,ft "_law_test_ok" 57 vn z1 (vr 507))::
 (nat_lit 509,o0)::
 (nat_lit 511,ot #[vs "_law_d" 857,vs "_law_test_here" 858,vs "_law_way" 859,vs "_law_at" 860])::
 (nat_lit 512,o0)::
 (nat_lit 514,ok "_law_bent_test" 854 855 856 301 2 509 510 (vr 511) (vr 512) (vr 513) 861 862)::
 (nat_lit 515,ft "_law_bent_test" 58 vn z1 (vr 514))::
 (nat_lit 516,o0)::
 (nat_lit 519,ok "_law_passes" 864 865 866 327 4 516 517 vn vn (vr 518) 867 868)::
 (nat_lit 520,ft "_law_passes" 59 vn z1 (vr 519))::
 (nat_lit 521,o0)::
 (nat_lit 523,ot #[vs "_law_d" 873,vs "_law_fields_here" 874])::
 (nat_lit 524,o0)::
 (nat_lit 526,ok "_law_kind_of" 870 871 872 341 1 521 522 (vr 523) (vr 524) (vr 525) 875 876)::
 (nat_lit 527,ft "_law_kind_of" 60 vn z1 (vr 526))::
 (nat_lit 528,o0)::
 (nat_lit 531,ok "_law_names_of" 878 879 880 344 2 528 529 vn vn (vr 530) 881 882)::
 (nat_lit 532,ft "_law_names_of" 61 vn z1 (vr 531))::
 (nat_lit 533,o0)::
 (nat_lit 536,ok "_law_near_values" 884 885 886 346 3 533 534 vn vn (vr 535) 887 888)::
 (nat_lit 537,ft "_law_near_values" 62 vn z1 (vr 536))::
 (nat_lit 538,o0)::
 (nat_lit 540,ot #[vs "_law_test_here" 893,vs "_law_found" 894,vs "_law_part" 895])::
 (nat_lit 541,o0)::
 (nat_lit 543,ok "_law_leaves_any" 890 891 892 356 1 538 539 (vr 540) (vr 541) (vr 542) 896 897)::
 (nat_lit 544,ft "_law_leaves_any" 63 vn z1 (vr 543))::
 (nat_lit 545,o0)::
 (nat_lit 547,ot #[vs "_law_script" 902,vs "_law_d" 903,vs "_law_turn" 904,vs "_law_title" 905,vs "_law_fields_here" 906,vs "_law_names" 907,vs "_law_step" 908,vs "_law_due" 909])::
 (nat_lit 548,ot #[vs "_law_sort" 910,vs "_law_test_here" 911,vs "_law_values" 912])::
 (nat_lit 550,ok "law" 899 900 901 362 1 545 546 (vr 547) (vr 548) (vr 549) 913 914)::
 (nat_lit 551,ft "law" 64 vn z1 (vr 550))::[]
def asK:List Addr:=[2,3,15,17,18,20,21,22,29,30,32,33,35,36,37,38,39,40,43,50,51,53,54,56,57,58,59,60,63,70,71,73,74,76,77,78,79,80,83,90,91,93,94,96,97,98,99,100,103,110,111,113,114,116,117,118,119,120,123,130,131,133,134,136,137,138,139,140,143,150,152,153,155,156,157,158,159,162,169,170,172,173,175,176,177,178,179,180,183,185,186,188,189,190,192,193,195,196,197,199,200,202,203,204,207,208,216,217,218,220,221,223,224,225,227,228,230,231,232,234,235,237,238,239,241,242,244,245,246,248,249,251,252,253,255,256,258,259,260,262,263,265,266,267,269,270,272,273,274,276,277,279,280,281,282,283,284,285,288,289,290,292,293,295,296,297,299,300,302,303,304,306,307,309,310,311,314,315,316,318,319,321,322,323,325,326,328,329,330,332,333,335,336,337,339,340,342,343,344,346,347,349,350,351,353,354,356,357,358,360,361,363,364,365,367,368,370,371,372,374,375,377,378,379,382,383,384,387,388,389,391,392,394,395,396,398,399,401,402,403,405,406,408,409,410,412,413,415,416,417,420,421,422,424,425,427,428,429,431,432,434,435,436,438,439,441,442,443,445,446,448,449,450,452,453,455,456,457,459,460,462,463,464,466,467,469,470,471,474,475,476,479,480,481,483,484,486,487,488,490,491,493,494,495,497,498,500,501,502,504,505,507,508,509,511,512,514,515,516,519,520,521,523,524,526,527,528,531,532,533,536,537,538,540,541,543,544,545,547,548,550,551]
theorem eK:∀ P,asK=(KK P).map (·.1):=fun P=>by kernel_rfl
def vw:Program:={ PySem.Challenge.pw_lanescribe_k06_events_that_pass with main:={ PySem.Challenge.pw_lanescribe_k06_events_that_pass.main with body:=[tp 0,tp 2,tp 3,tp 4,tp 5,tp 6,tp 7,tp 8,tp 9,tp 11,tp 12,tp 13,tp 14,tp 15,tp 16,tp 17,tp 18,tp 20,tp 21,tp 22,tp 23,tp 24,tp 25,tp 26,tp 27,tp 28,tp 29,tp 30,tp 31,tp 32,tp 34,tp 35,tp 36,tp 37,tp 38,tp 39,tp 40,tp 41,tp 42,tp 43,tp 44,tp 45,tp 46,tp 47,tp 48,tp 49,tp 50,tp 51,tp 52,tp 53,tp 54,tp 55,tp 56,tp 57,tp 58,tp 59,tp 60,tp 61,tp 62,tp 63,tp 64] } }
def ls:List Str:=[u "ScribeError",u "BadName",u "BadBounds",u "BadTest",u "Taken",u "Full",u "Missing",u "Kind",u "WITHIN",u "SIGN_OF"]
def lv:List (Str×WData):=[]
abbrev Xt:Shared->Bool:=fun s=>xlAt vw lv s && recOk (RowW.records (OpenRow.toRowW PySem.Challenge.rw_lanescribe_k06_events_that_pass.row)) s
abbrev hk:Hook:=kmHook KK asK eK [546]
theorem said:PySem.Challenge.rw_lanescribe_k06_events_that_pass.wellSaid=true:=by kernel_rfl
theorem openP:opening (OpenRow.toRowW PySem.Challenge.rw_lanescribe_k06_events_that_pass.row).prog=plainProg (OpenRow.toRowW PySem.Challenge.rw_lanescribe_k06_events_that_pass.row).prog.main.scope.names:=by kernel_rfl
theorem by_parts {p:Program} {w:World} {N L:Nat} {s0 s':Shared} {t':Thread} {m0:Nat} {ann:Option Value} {β:Type} {F:Shared->β} {X:β} (h1:(s0.heap.isNs mainGlobals && s0.gens.size == 0)=true) (h2:s0.heap.objs.size=m0) (h3:s0.heap.nsMap mainGlobals "__annotations__" = ann)
 (chain:∀ r,topRun treeTable p w m0 ann L s' t'=some r->topRun treeTable p w m0 ann N s0 (topStub p)=some r)
 (last:((topRun treeTable p w m0 ann L s' t').bind fun s₁=>match staticsOk (importedModules p.main.body) s0.heap s₁.heap && namesBound p s₁.heap && gensDone s₁ && laidKept s0.heap s₁.heap with
  |true=>some s₁
  |false=>none).map F=some X):(topFrom treeTable p w N s0).map F=some X:=by
 cases hA:topRun treeTable p w m0 ann L s' t' with
 |none=>rw [hA] at last;cases last
 | some r=>
   have e:=chain r hA
   unfold topFrom
   rw [h1,h2,h3,e]
   rw [hA] at last
   exact last
abbrev pp:Program:=(OpenRow.toRowW PySem.Challenge.rw_lanescribe_k06_events_that_pass.row).prog
def env:Env:={ scope:=pp.main.scope,locals:=mainNs,globals:=mainNs,cells:=[],code:=vr 13,frame:=some 14 }
abbrev cd:Code:=.body (behindTheImports pp) env
abbrev fp:Pos:={ line:=0,col:=0,endLine:=0,endCol:=0 }
abbrev an:Option Value:=some (vr 6)
abbrev S_0 (w:World) (os:OsState):Shared:=⟨boot_heap w.params,Array.mk [],boot_drawn,boot_toks,os⟩
def h_a (P:Params):Heap:=⟨⟨boot_o_0 P::boot_o_1 P::boot_o_2 P::boot_o_3 P::boot_o_4 P::boot_o_5 P::boot_o_6 P::boot_o_7 P::boot_o_8 P::boot_o_9 P::boot_o_10 P::o0::o1::o2::o3::[]⟩,{ }⟩
abbrev S_a (w:World) (os:OsState):Shared:=⟨h_a w.params,Array.mk [],{ },187,os⟩
abbrev p_a:Pos:={ line:=0,col:=0,endLine:=0,endCol:=0 }
def h_b (P:Params):Heap:=⟨⟨boot_o_0 P::boot_o_1 P::boot_o_2 P::boot_o_3 P::boot_o_4 P::boot_o_5 P::boot_o_6 P::boot_o_7 P::boot_o_8 P::boot_o_9 P::boot_o_10 P::o0::o1::o2::o3::[]⟩,{ }⟩
abbrev S_b (w:World) (os:OsState):Shared:=⟨h_b w.params,Array.mk [],{ },187,os⟩
abbrev p_b:Pos:={ line:=0,col:=0,endLine:=0,endCol:=0 }
theorem r_a (w:World) (os:OsState):topGo treeTable pp w 11 an 12 (S_0 w os) (topStub pp)=some (S_a w os,⟨denote treeTable cd,cd,p_a,[topFrame fp]⟩):=by (revert w os;refine (byRow2 "special-get-raises" ?_ ?_:∀ w,_) <;> (intro w os;kernel_rfl))
theorem r_b (w:World) (os:OsState):segRun treeTable pp w 11 an 1 1 (S_a w os) (blockOf (behindTheImports pp) env cd p_a [topFrame fp])=some (.next,S_b w os,cd,p_b):=by (revert w os;refine (byRow2 "special-get-raises" ?_ ?_:∀ w,_) <;> (intro w os;kernel_rfl))
def h_c7 (P:Params):Heap:=⟨⟨boot_o_0 P::boot_o_1 P::boot_o_2 P::o4 P::boot_o_4 P::boot_o_5 P::boot_o_6 P::boot_o_7 P::boot_o_8 P::boot_o_9 P::boot_o_10 P::o0::o5::o2::o3::o0::o1::o6::o0::o7::o8::o9::o10::o11::o12 P::o0::o13::o14::o15::o16::o0::o1::o17::o0::o18::o19::o20::o21::o22 P::o23::o24::o25::o26::o27::o11::o28 P::o0::o29::o30::o31::o32::o0::o1::o33::o0::o34::o35::o36::o0::o37 P::o38::o39::o40::o27::o11::o41 P::o0::o42::o43::o44::o45::o0::o1::o46::o0::o47::o48::o49::o0::o50 P::o51::o52::o53::o27::o11::o54 P::o0::o55::o56::o57::o58::o0::o1::o59::o0::o60::o61::o62::o0::o63 P::o64::o65::o66::o27::o11::o67 P::o0::o68::o69::o70::o71::o0::o1::o72::o0::o73::o74::o75::o0::o76 P::o77::o78::o79::[]⟩,{ }⟩
abbrev S_c7 (w:World) (os:OsState):Shared:=⟨h_c7 w.params,Array.mk [],{ },326,os⟩
abbrev p_c7:Pos:={ line:=22,col:=0,endLine:=25,endCol:=50 }
abbrev l_7:List Stmt:=((behindTheImports pp).drop 0).take 7
theorem r_7 (w:World) (os:OsState):segRun treeTable pp w 11 an 1 1245 (S_b w os) (piecesOf l_7 env cd p_b [topFrame fp])=some (.next,S_c7 w os,cd,p_c7):=by (revert w os;refine (byRow2 "special-get-raises" ?_ ?_:∀ w,_) <;> (intro w os;kernel_rfl))
def h_c19 (P:Params):Heap:=⟨⟨boot_o_0 P::boot_o_1 P::boot_o_2 P::o80 P::boot_o_4 P::boot_o_5 P::boot_o_6 P::boot_o_7 P::boot_o_8 P::boot_o_9 P::boot_o_10 P::o0::o81::o2::o3::o0::o1::o6::o0::o7::o8::o9::o10::o11::o12 P::o0::o13::o14::o15::o16::o0::o1::o17::o0::o18::o19::o20::o21::o22 P::o82::o24::o25::o26::o27::o11::o28 P::o0::o29::o30::o31::o32::o0::o1::o33::o0::o34::o35::o36::o0::o37 P::o38::o39::o40::o27::o11::o41 P::o0::o42::o43::o44::o45::o0::o1::o46::o0::o47::o48::o49::o0::o50 P::o51::o52::o53::o27::o11::o54 P::o0::o55::o56::o57::o58::o0::o1::o59::o0::o60::o61::o62::o0::o63 P::o64::o65::o66::o27::o11::o67 P::o0::o68::o69::o70::o71::o0::o1::o72::o0::o73::o74::o75::o0::o76 P::o77::o78::o79::o27::o11::o83 P::o0::o84::o85::o86::o87::o0::o1::o88::o0::o89::o90::o91::o0::o92 P::o93::o94::o95::o27::o11::o96 P::o0::o97::o98::o99::o0::o1::o100::o0::o101::o102::o103::o104::o105 P::o106::o107::o108::o109::o11::o110 P::o0::o111::o112::o113::o114::o0::o1::o115::o0::o116::o117::o118::o119::o120 P::o121::o122::o123::o124::o0::o1::o125::o0::o126::o127::o128::o0::o1::o129::o0::o130::o131::o132::o0::o1::o133::o0::o134::o135::o136::o0::o1::o137::o138::o139::o0::o11::o140 P::o0::o141::o142::o143::o0::o144::o0::o1::o145::o0::o146::o147::o148::o0::o1::o149::o0::o150::o151::o152::o0::o1::o153::o0::o154::o155::o156::o0::o1::o157::o0::o158::o159::o160::o0::o1::o161::o0::o162::o163::o164::o0::o1::o165::o0::o166::o167::o168::o0::o1::o169::o0::o170::o171::o172::o0::o1::o173::o0::o174::o175::o176::o0::o1::o177::o0::o178::o179::o180::o181::o182 P::o183::o184::o185::o186::o187::[]⟩,{ }⟩
abbrev S_c19 (w:World) (os:OsState):Shared:=⟨h_c19 w.params,Array.mk [],{ },545,os⟩
abbrev p_c19:Pos:={ line:=60,col:=0,endLine:=99,endCol:=54 }
abbrev l_19:List Stmt:=((behindTheImports pp).drop 7).take 12
theorem r_19 (w:World) (os:OsState):segRun treeTable pp w 11 an 1 1360 (S_c7 w os) (piecesOf l_19 env cd p_c7 [topFrame fp])=some (.next,S_c19 w os,cd,p_c19):=by (revert w os;refine (byRow2 "special-get-raises" ?_ ?_:∀ w,_) <;> (intro w os;kernel_rfl))
def h_c55 (P:Params):Heap:=⟨⟨boot_o_0 P::boot_o_1 P::boot_o_2 P::o188 P::boot_o_4 P::boot_o_5 P::boot_o_6 P::boot_o_7 P::boot_o_8 P::boot_o_9 P::boot_o_10 P::o0::o189::o2::o3::o0::o1::o6::o0::o7::o8::o9::o10::o11::o12 P::o0::o13::o14::o15::o16::o0::o1::o17::o0::o18::o19::o20::o21::o22 P::o82::o24::o25::o26::o27::o11::o28 P::o0::o29::o30::o31::o32::o0::o1::o33::o0::o34::o35::o36::o0::o37 P::o38::o39::o40::o27::o11::o41 P::o0::o42::o43::o44::o45::o0::o1::o46::o0::o47::o48::o49::o0::o50 P::o51::o52::o53::o27::o11::o54 P::o0::o55::o56::o57::o58::o0::o1::o59::o0::o60::o61::o62::o0::o63 P::o64::o65::o66::o27::o11::o67 P::o0::o68::o69::o70::o71::o0::o1::o72::o0::o73::o74::o75::o0::o76 P::o77::o78::o79::o27::o11::o83 P::o0::o84::o85::o86::o87::o0::o1::o88::o0::o89::o90::o91::o0::o92 P::o93::o94::o95::o27::o11::o96 P::o0::o97::o98::o99::o0::o1::o100::o0::o101::o102::o103::o104::o105 P::o106::o107::o108::o109::o11::o110 P::o0::o111::o112::o113::o114::o0::o1::o115::o0::o116::o117::o118::o119::o120 P::o121::o122::o123::o124::o0::o1::o125::o0::o126::o127::o128::o0::o1::o129::o0::o130::o131::o132::o0::o1::o133::o0::o134::o135::o136::o0::o1::o137::o138::o139::o0::o11::o140 P::o0::o141::o142::o143::o0::o144::o0::o1::o145::o0::o146::o147::o148::o0::o1::o149::o0::o150::o151::o152::o0::o1::o153::o0::o154::o155::o156::o0::o1::o157::o0::o158::o159::o160::o0::o1::o161::o0::o162::o163::o164::o0::o1::o165::o0::o166::o167::o168::o0::o1::o169::o0::o170::o171::o172::o0::o1::o173::o0::o174::o175::o176::o0::o1::o177::o0::o178::o179::o180::o181::o182 P::o183::o184::o185::o186::o187::o190 P::o191 P::o0::o1::o192::o0::o193::o194::o195::o0::o1::o196::o0::o197::o198::o199::o0::o1::o200::o0::o201::o202::o203::o0::o1::o204::o205::o206::o0::o1::o207::o0::o208::o209::o210::o0::o1::o211::o0::o212::o213::o214::o0::o1::o215::o0::o216::o217::o218::o0::o1::o219::o0::o220::o221::o222::o0::o1::o223::o0::o224::o225::o226::o0::o1::o227::o0::o228::o229::o230::o0::o1::o231::o0::o232::o233::o234::o0::o1::o235::o0::o236::o237::o238::o0::o1::o239::o0::o240::o241::o242::o0::o1::o243::o244::o245::o0::o1::o246::o247::o248::o0::o1::o249::o0::o250::o251::o252::o0::o1::o253::o0::o254::o255::o256::o0::o1::o257::o0::o258::o259::o260::o0::o1::o261::o0::o262::o263::o264::o0::o1::o265::o266::o267::o0::o1::o268::o0::o269::o270::o271::o0::o1::o272::o0::o273::o274::o275::o0::o1::o276::o0::o277::o278::o279::o0::o1::o280::o0::o281::o282::o283::o0::o1::o284::o0::o285::o286::o287::o0::o1::o288::o0::o289::o290::o291::o0::o1::o292::o0::o293::o294::o295::o0::o1::o296::o297::o298::o0::o1::o299::o300::o301::o0::o1::o302::o0::o303::o304::o305::[]⟩,{ }⟩
abbrev S_c55 (w:World) (os:OsState):Shared:=⟨h_c55 w.params,Array.mk [],{ },833,os⟩
abbrev p_c55:Pos:={ line:=278,col:=0,endLine:=280,endCol:=116 }
abbrev l_55:List Stmt:=((behindTheImports pp).drop 19).take 36
theorem r_55 (w:World) (os:OsState):segRun treeTable pp w 11 an 1 1043 (S_c19 w os) (piecesOf l_55 env cd p_c19 [topFrame fp])=some (.next,S_c55 w os,cd,p_c55):=by (revert w os;refine (byRow2 "special-get-raises" ?_ ?_:∀ w,_) <;> (intro w os;kernel_rfl))
abbrev l_z:List Stmt:=(behindTheImports pp).drop 55
theorem all_l:behindTheImports pp=(l_7++(l_19++(l_55++l_z))):=by kernel_rfl
abbrev wf (w:World):World:=w.withFollow "special-get-raises" false
theorem lastf (w:World) (os:OsState):((topRun treeTable pp (wf w) 11 an 798 (S_c55 (wf w) os) (restOf l_z env cd p_c55 [topFrame fp])).bind fun s₁=>match staticsOk (importedModules pp.main.body) (S_0 (wf w) os).heap s₁.heap && namesBound pp s₁.heap && gensDone s₁ && laidKept (S_0 (wf w) os).heap s₁.heap with
 |true=>some s₁
 |false=>none).map (fun s=>(openSeen vw ls (importedModules pp.main.body) Xt true s,hk.obs s))=some (openGood vw ls,hk.val (wf w)):=by kernel_rfl
abbrev wt (w:World):World:=w.withFollow "special-get-raises" true
theorem lastt (w:World) (os:OsState):((topRun treeTable pp (wt w) 11 an 798 (S_c55 (wt w) os) (restOf l_z env cd p_c55 [topFrame fp])).bind fun s₁=>match staticsOk (importedModules pp.main.body) (S_0 (wt w) os).heap s₁.heap && namesBound pp s₁.heap && gensDone s₁ && laidKept (S_0 (wt w) os).heap s₁.heap with
 |true=>some s₁
 |false=>none).map (fun s=>(openSeen vw ls (importedModules pp.main.body) Xt true s,hk.obs s))=some (openGood vw ls,hk.val (wt w)):=by kernel_rfl
theorem last (w:World) (os:OsState):((topRun treeTable pp w 11 an 798 (S_c55 w os) (restOf l_z env cd p_c55 [topFrame fp])).bind fun s₁=>match staticsOk (importedModules pp.main.body) (S_0 w os).heap s₁.heap && namesBound pp s₁.heap && gensDone s₁ && laidKept (S_0 w os).heap s₁.heap with
 |true=>some s₁
 |false=>none).map (fun s=>(openSeen vw ls (importedModules pp.main.body) Xt true s,hk.obs s))=some (openGood vw ls,hk.val w):=byRow2 "special-get-raises" (P:=fun w=>((topRun treeTable pp w 11 an 798 (S_c55 w os) (restOf l_z env cd p_c55 [topFrame fp])).bind fun s₁=>match staticsOk (importedModules pp.main.body) (S_0 w os).heap s₁.heap && namesBound pp s₁.heap && gensDone s₁ && laidKept (S_0 w os).heap s₁.heap with
 |true=>some s₁
 |false=>none).map (fun s=>(openSeen vw ls (importedModules pp.main.body) Xt true s,hk.obs s))=some (openGood vw ls,hk.val w)) (fun w=>lastf w os) (fun w=>lastt w os) w
theorem chain (w:World) (os:OsState) (r:Shared) (h:topRun treeTable pp w 11 an 798 (S_c55 w os) (restOf l_z env cd p_c55 [topFrame fp])=some r):topRun treeTable pp w 11 an 4459 (S_0 w os) (topStub pp)=some r:=by
 have k:topRun treeTable pp w 11 an 4446 (S_b w os) (restOf (l_7++(l_19++(l_55++l_z))) env cd p_b [topFrame fp])=some r:=piece_app (r_7 w os) (piece_app (r_19 w os) (piece_app (r_55 w os) (h)))
 rw [← all_l] at k
 exact go_top (n:=12) (N:=4447) (r_a w os) (piece_block (n:=1) (N:=4446) (r_b w os) k)
theorem run (w:World) (os:OsState):(topFrom treeTable pp w 4459 (S_0 w os)).map (fun s=>(openSeen vw ls (importedModules pp.main.body) Xt true s,hk.obs s))=some (openGood vw ls,hk.val w):=by_parts (s0:=S_0 w os) (by kernel_rfl) (by kernel_rfl) (by kernel_rfl) (chain w os) (last w os)
theorem left:LeftO (OpenRow.toRowW PySem.Challenge.rw_lanescribe_k06_events_that_pass.row).prog vw ls Xt hk.obs hk.val 4459:=left_boot openP (by decide) (fun s=>by kernel_rfl) run
theorem head (hw:(OpenRow.toRowW PySem.Challenge.rw_lanescribe_k06_events_that_pass.row).promised) {d:DefRec} {kwd:List (Str×Expr)} (hdef:defOf vw PySem.Challenge.rw_lanescribe_k06_events_that_pass.row.name=some (d,kwd)) (hp:PySem.Challenge.rw_lanescribe_k06_events_that_pass.row.prog.theDef PySem.Challenge.rw_lanescribe_k06_events_that_pass.row.name=some (d.params,d.body,d.scope)) (hk1:kwWritten? d.params.kwonlyargs d.params.kw_defaults=some kwd)
 (hc:WalkO vw ls (XL vw lv) (kmHook KK asK eK [546]).says (OpenRow.toRowW PySem.Challenge.rw_lanescribe_k06_events_that_pass.row) d kwd fun f vs=>PySem.call f vs):PySem.Challenge.rw_lanescribe_k06_events_that_pass.Holds:=
 holds_law said fun said'=>holds_open (q:=vw) (loose:=ls) (Xt:=Xt) (XP:=XL vw lv) (Yf:=hk.obs) (Ya:=hk.val) (YP:=hk.says) (N:=4459) left hk.of hk.keeps (fun s e=>xl_of s (Bool.and_eq_true_iff.mp e).1) XL.keeps hdef hp hk1 (fun s e=>recFacts_of (Bool.and_eq_true_iff.mp e).2) (by rfl) said' (by decide +kernel) ⟨rfl,rfl,rfl,rfl,rfl,by decide +kernel⟩ hw hc
end
end Kd
namespace L2
open PySem PySem.Spec PyProof.Rows
abbrev Key:=Sum Int Str
def keyIs:Key->Value->Bool
 |.inl k,v=>Value.isInt k v
 |.inr x,v=>Value.isStrOf x v
def keyH (w:World):Key->Int
 |.inl k=>hashInt k
 |.inr x=>hashStr w x
theorem aa3:∀ {k:Key} {v:Value},keyIs k v=true->(∃ i t,k=Sum.inl i/\v=Value.int i t)∨(∃ x t,k=Sum.inr x/\v=Value.str x t)
 | .inl i,v,h=>by
   obtain ⟨t,e⟩:=Value.isInt_shape (k:=i) (v:=v) h
   exact .inl ⟨i,t,rfl,e⟩
 | .inr x,v,h=>by
   obtain ⟨t,e⟩:=Value.isStrOf_shape (x:=x) (v:=v) h
   exact .inr ⟨x,t,rfl,e⟩
theorem keyIs_int (i:Int) (t:Tok):keyIs (.inl i) (.int i t)=true:=by simp [keyIs,Value.isInt]
theorem keyIs_str (x:Str) (t:Tok):keyIs (.inr x) (.str x t)=true:=by simp [keyIs,Value.isStrOf]
theorem key_ll (a b:Int):decide ((Sum.inl a:Key)=Sum.inl b)=(a == b):=by
 by_cases e:a=b
 ·subst e;simp
 ·have h:¬ (Sum.inl a:Key)=Sum.inl b:=fun q=>e (Sum.inl.inj q)
  rw [decide_eq_false h]
  exact (beq_eq_false_iff_ne.mpr e).symm
theorem key_rr (a b:Str):decide ((Sum.inr a:Key)=Sum.inr b)=decide (a=b):=by
 by_cases e:a=b
 ·subst e;simp
 ·have h:¬ (Sum.inr a:Key)=Sum.inr b:=fun q=>e (Sum.inr.inj q)
  rw [decide_eq_false h,decide_eq_false e]
theorem key_lr (a:Int) (b:Str):decide ((Sum.inl a:Key)=Sum.inr b)=false:=decide_eq_false (fun q=>nomatch q)
theorem key_rl (a:Str) (b:Int):decide ((Sum.inr a:Key)=Sum.inl b)=false:=decide_eq_false (fun q=>nomatch q)
def ab4 (prog:Program) (w:World):PySem.KeyKind prog w Key where
 is:=keyIs
 hash:=keyH w
 inj:=fun v a b ha hb=>by
  rcases aa3 ha with ⟨i,t,rfl,rfl⟩|⟨x,t,rfl,rfl⟩
  ·rcases aa3 hb with ⟨j,u,rfl,e⟩|⟨y,u,rfl,e⟩
   ·injection e with e1 _;rw [e1]
   ·exact nomatch e
  ·rcases aa3 hb with ⟨j,u,rfl,e⟩|⟨y,u,rfl,e⟩
   ·exact nomatch e
   ·injection e with e1 _;rw [e1]
 byValue:=fun k v h=>by
  rcases aa3 h with ⟨i,t,rfl,rfl⟩|⟨x,t,rfl,rfl⟩ <;> rfl
 pyHash:=fun hv h=>by
  rcases aa3 hv with ⟨i,t,rfl,rfl⟩|⟨x,t,rfl,rfl⟩
  ·exact wpAny_pyHash_int h
  ·exact wpAny_pyHash_str h
 eqBool:=fun hu hv h=>by
  rcases aa3 hu with ⟨i,t,rfl,rfl⟩|⟨x,t,rfl,rfl⟩
  ·rcases aa3 hv with ⟨j,u,rfl,rfl⟩|⟨y,u,rfl,rfl⟩
   ·rw [key_ll] at h;exact wpAny_eqBool_int h
   ·rw [key_lr] at h;exact SeqAt.EqAt.int_str i t y u _ _ _ _ h
  ·rcases aa3 hv with ⟨j,u,rfl,rfl⟩|⟨y,u,rfl,rfl⟩
   ·rw [key_rl] at h;exact SeqAt.EqAt.str_int x t j u _ _ _ _ h
   ·rw [key_rr] at h;exact wpAny_eqBool_str h
 «strs»:=fun k x t v h=>by
  rcases aa3 h with ⟨i,u,rfl,e⟩|⟨y,u,rfl,e⟩
  ·exact nomatch e
  ·injection e with e1 _
   subst e1
   cases v <;> rfl
theorem mixKind_int (prog:Program) (w:World) (i:Int) (t:Tok):(ab4 prog w).is (.inl i) (.int i t)=true:=keyIs_int i t
theorem mixKind_str (prog:Program) (w:World) (x:Str) (t:Tok):(ab4 prog w).is (.inr x) (.str x t)=true:=keyIs_str x t
inductive V where
 |non|bl (b:Bool)|int (i:Int)|str (x:Str)|byt (b:Array UInt8)|flt (b:UInt64)|ref (a:Addr)|ty (n:String)
 deriving DecidableEq
def RelV:V->Value->Prop
 |.non,u=>u=Value.none
 |.bl b,u=>u=Value.bool b
 |.int i,u=>∃ t,u=Value.int i t
 |.str x,u=>∃ t,u=Value.str x t
 |.byt b,u=>∃ t,u=Value.bytes b t
 |.flt b,u=>∃ t,u=Value.float b t
 |.ref a,u=>u=Value.ref a
 |.ty n,u=>u=Value.type n
abbrev Vals:List V->List Value->Prop:=Paired RelV
theorem Vals.length {xs:List V} {us:List Value} (r:Vals xs us):xs.length=us.length:=Paired.length r
theorem Vals.get:∀ {xs:List V} {us:List Value} {i:Nat} {x:V},Vals xs us->xs[i]?=some x->∃ u,us[i]?=some u/\RelV x u
 |_,_,_,_,.nil,e=>by simp at e
 |_,_,0,_,.cons r _,e=>by simp at e;subst e;exact ⟨_,rfl,r⟩
 | _,_,i+1,x,.cons _ t,e=>by
   obtain ⟨u,h1,h2⟩:=Vals.get (i:=i) (x:=x) t (by simpa using e)
   exact ⟨u,by simpa using h1,h2⟩
theorem Vals.set {x:V} {u:Value} (r:RelV x u):∀ {xs:List V} {us:List Value} (i:Nat),Vals xs us->Vals (xs.set i x) (us.set i u)
 |_,_,_,.nil=>.nil
 |_,_,0,.cons _ t=>.cons r t
 |_,_,i+1,.cons q t=>.cons q (Vals.set r i t)
theorem Vals.append:∀ {xs ys:List V} {us ws:List Value},Vals xs us->Vals ys ws->Vals (xs++ys) (us++ws)
 |_,_,_,_,.nil,s=>s
 |_,_,_,_,.cons r t,s=>.cons r (Vals.append t s)
theorem Vals.take:∀ {xs:List V} {us:List Value} (n:Nat),Vals xs us->Vals (xs.take n) (us.take n)
 |_,_,0,_=>.nil
 |_,_,_+1,.nil=>.nil
 |_,_,n+1,.cons r t=>.cons r (Vals.take n t)
theorem Vals.drop:∀ {xs:List V} {us:List Value} (n:Nat),Vals xs us->Vals (xs.drop n) (us.drop n)
 |_,_,0,r=>r
 |_,_,_+1,.nil=>.nil
 |_,_,n+1,.cons _ t=>Vals.drop n t
def RelO:Option V->Option Value->Prop
 |some v,some u=>RelV v u
 |none,none=>True
 |_,_=>False
def KV {κ:Type}:List (κ×V)->List (κ×Value)->Prop:=Paired fun (p:κ×V) (q:κ×Value)=>p.1=q.1/\RelV p.2 q.2
def kV:Key->V
 |.inl i=>.int i
 |.inr x=>.str x
inductive HO where
 |lst (xs:List V)
 |tup (xs:List V)
 |dK (kvs:List (Key×V))|dT (kvs:List (List Key×V))
 |set (S:Int->Bool) (n:Nat)
 |ins (C dx:Addr) (fs:List (Str×V))
 |own (x:Addr)
 |xd (fs:List (Str×V))
 |met (f x:Addr)
 |rng (lo hi:Int)
 |frz (o:Obj) (u:HO)
 |tbl (ps:Array Value)
 |ext (φ:Heap->Prop)
abbrev Hp:=Addr->Option HO
def upd (H:Hp) (a:Addr) (o:HO):Hp:=fun b=>if b=a then some o else H b
theorem a02 {H:Hp} {a:Addr} {o:HO}:upd H a o a=some o:=by unfold upd;rw [if_pos rfl]
theorem a68 {H:Hp} {a b:Addr} {o:HO} (h:b≠a):upd H a o b=H b:=by unfold upd;rw [if_neg h]
theorem ah9 {H:Hp} {a b:Addr} {o u:HO} (h:H a=some o) (h':H b=some u) (d:o≠u):a≠b:=by
 intro e;subst e;rw [h] at h';exact d (Option.some.inj h')
theorem a70 {H:Hp} {a b:Addr} {o:HO} (h:H a=some o) (h':H b=none):a≠b:=by
 intro e;subst e;rw [h] at h';cases h'
section
variable (P:Program) (w:World)
def ab6 (H:Hp) (h:Heap) (a:Addr):HO->Prop
 |.lst xs=>xs.length≤sizeLine/\∃ (its:List Value) (n:Nat),Vals xs its/\h.get? a=some { cls:=.type "list",data:=.seq its.toArray n }
 |.tup xs=>xs.length≤sizeLine/\∃ its:List Value,Vals xs its/\IsTup h a its.toArray
 |.dK kvs=>kvs.length≤sizeLine/\(a == sysModules)=false/\∃ vs,KV kvs vs/\h.DictOf (ab4 P w) a vs
 |.dT kvs=>kvs.length≤sizeLine/\(a == sysModules)=false/\∃ xs:List (List Key×Addr×Value),
  Paired (fun (p:List Key×V) (q:List Key×Addr×Value)=>p.1=q.1/\H q.2.1=some (.tup (p.1.map kV))/\RelV p.2 q.2.2) kvs xs/\
  ∃ o es ep,h.get? a=some o/\o.ExactDict/\o.data=.dict es ep/\es.toList=xs.map (entryOfKey (tupleKind (ab4 P w)))/\(xs.map (·.1)).Nodup
 |.set S n=>h.SetOf (intKind P w) a S n
 |.ins C dx fs=>H dx=some (.own a)/\fs.length≤1000/\dx≠a/\h.get? a=some (PySem.W.instObj C dx)/\
  ∃ mA,h.Ns1 dx mA/\(∀ f,RelO (fs.lookup f) (mA f))/\PySem.Within mA (fs.map (·.1))
 |.own _=>∃ o,h.get? a=some o
 |.xd fs=>∃ mA,h.Ns1 a mA/\∀ f,RelO (fs.lookup f) (mA f)
 |.rng lo hi=>∃ t u v,h.get? a=some { cls:=.type "range",data:=.fields #[.int lo t,.int hi u,.int 1 v] }
 |.frz o u=>h.get? a=some o/\ab6 H h a u
 |.tbl ps=>h.get? a=some { cls:=.none,data:=.fields ps }
 |.met f x=>h.get? a=some (PySem.W.methodObj (.ref f) (.ref x))
 |.ext φ=>φ h/\(∃ o,h.get? a=some o)/\∀ h1 h2:Heap,φ h1->(∀ o,h1.get? a=some o->h2.get? a=some o)->φ h2
def HOk (H:Hp) (h:Heap):Prop:=∀ a o,H a=some o->ab6 P w H h a o
end
section
variable {P:Program} {w:World} {H H':Hp} {h h':Heap} {a:Addr} {o:HO}
theorem ab6.lt (x:ab6 P w H h a o):a<h.objs.size:=by
 cases o with
 |lst xs=>obtain ⟨_,_,_,_,e⟩:=x;exact Heap.lt_size e
 |tup xs=>obtain ⟨_,_,_,p⟩:=x;exact p.lt
 |dK kvs=>obtain ⟨_,_,_,_,o,_,_,e,_⟩:=x;exact Heap.lt_size e
 |dT kvs=>obtain ⟨_,_,_,_,o,_,_,e,_⟩:=x;exact Heap.lt_size e
 |set S n=>obtain ⟨o,_,_,_,e,_⟩:=x;exact Heap.lt_size e
 |ins C dx fs=>obtain ⟨_,_,_,e,_⟩:=x;exact Heap.lt_size e
 |own y=>obtain ⟨_,e⟩:=x;exact Heap.lt_size e
 |xd fs=>obtain ⟨_,⟨_,_,_,e,_⟩,_⟩:=x;exact Heap.lt_size e
 |rng lo hi=>obtain ⟨_,_,_,e⟩:=x;exact Heap.lt_size e
 |frz ob u=>obtain ⟨e,_⟩:=x;exact Heap.lt_size e
 |tbl ps=>exact Heap.lt_size (show h.get? a=some _ from x)
 |met f y=>exact Heap.lt_size (show h.get? a=some _ from x)
 |ext φ=>obtain ⟨_,⟨_,e⟩,_⟩:=x;exact Heap.lt_size e
theorem Paired.mapP {α β:Type} {F G:α->β->Prop}:∀ {l₁:List α} {l₂:List β},Paired F l₁ l₂->(∀ a b,F a b->G a b)->Paired G l₁ l₂
 |_,_,.nil,_=>.nil
 |_,_,.cons r t,f=>.cons (f _ _ r) (Paired.mapP t f)
theorem ab6.stay (x:ab6 P w H h a o) (k:∀ b u,(b=a∨H b=some (.own a))->h.get? b=some u->h'.get? b=some u)
 (ho:∀ b,H b=some (.own a)->H' b=some (.own a)) (ht:∀ b xs,H b=some (.tup xs)->H' b=some (.tup xs)):ab6 P w H' h' a o:=by
 induction o with
 |lst xs=>obtain ⟨z,its,n,r,e⟩:=x;exact ⟨z,its,n,r,k _ _ (.inl rfl) e⟩
 |tup xs=>obtain ⟨z,its,r,ob,e,c⟩:=x;exact ⟨z,its,r,ob,k _ _ (.inl rfl) e,c⟩
 |dK kvs=>obtain ⟨z,y,vs,r,ob,es,ep,e,c⟩:=x;exact ⟨z,y,vs,r,ob,es,ep,k _ _ (.inl rfl) e,c⟩
 | dT kvs=>
   obtain ⟨z,y,xs,r,ob,es,ep,e,c⟩:=x
   exact ⟨z,y,xs,Paired.mapP r fun p q z=>⟨z.1,ht _ _ z.2.1,z.2.2⟩,ob,es,ep,k _ _ (.inl rfl) e,c⟩
 |set S n=>obtain ⟨ob,es,ep,t,e,c⟩:=x;exact ⟨ob,es,ep,t,k _ _ (.inl rfl) e,c⟩
 | ins C dx fs=>
   obtain ⟨d,z,ne,e,mA,⟨od,es,ep,e2,c⟩,r⟩:=x
   exact ⟨ho _ d,z,ne,k _ _ (.inl rfl) e,mA,⟨od,es,ep,k _ _ (.inr d) e2,c⟩,r⟩
 |own y=>obtain ⟨ob,e⟩:=x;exact ⟨ob,k _ _ (.inl rfl) e⟩
 |xd fs=>obtain ⟨mA,⟨od,es,ep,e,c⟩,r⟩:=x;exact ⟨mA,⟨od,es,ep,k _ _ (.inl rfl) e,c⟩,r⟩
 |rng lo hi=>obtain ⟨t,u,v,e⟩:=x;exact ⟨t,u,v,k _ _ (.inl rfl) e⟩
 |frz ob u ih=>obtain ⟨e,q⟩:=x;exact ⟨k _ _ (.inl rfl) e,ih q⟩
 | tbl ps=>
   have e:h.get? a=some { cls:=.none,data:=.fields ps }:=x
   show h'.get? a=some { cls:=.none,data:=.fields ps }
   exact k a _ (.inl rfl) e
 | met f y=>
   have e:h.get? a=some (PySem.W.methodObj (.ref f) (.ref y)):=x
   show h'.get? a=some (PySem.W.methodObj (.ref f) (.ref y))
   exact k a _ (.inl rfl) e
 |ext φ=>obtain ⟨p,⟨o,e⟩,st⟩:=x;exact ⟨st _ _ p fun o q=>k _ _ (.inl rfl) q,⟨o,k _ _ (.inl rfl) e⟩,st⟩
theorem HOk.lt (x:HOk P w H h) (e:H a=some o):a<h.objs.size:=(x a o e).lt
theorem HOk.fresh (x:HOk P w H h) (e:h.objs.size≤a):H a=none:=by
 cases q:H a with
 |none=>rfl
 |some u=>exact absurd (Nat.lt_of_lt_of_le (x.lt q) e) (Nat.lt_irrefl _)
theorem HOk.kept (x:HOk P w H h) (k:∀ b u,h.get? b=some u->h'.get? b=some u):HOk P w H h':=fun a o e=>
 (x a o e).stay (fun b u _ q=>k b u q) (fun _ q=>q) fun _ _ q=>q
theorem HOk.laid (x:HOk P w H h) (k:∀ b u,h.get? b=some u->h'.get? b=some u) (hp:h.objs.size≤a) (new:ab6 P w (upd H a o) h' a o):HOk P w (upd H a o) h':=fun b u e=>by
 have hn:=x.fresh hp
 by_cases hb:b=a
 ·subst hb;rw [a02] at e;cases e;exact new
 ·rw [a68 hb] at e
  exact (x b u e).stay (fun c v _ q=>k c v q) (fun c q=>by rw [a68 (a70 q hn)];exact q) fun c xs q=>by rw [a68 (a70 q hn)];exact q
end
def Rd (H:Hp) (a:Addr) (u:HO):Prop:=H a=some u∨∃ o,H a=some (.frz o u)
theorem Rd.ok {P:Program} {w:World} {H:Hp} {h:Heap} {a:Addr} {u:HO} (r:Rd H a u) (x:HOk P w H h):ab6 P w H h a u:=by
 rcases r with r|⟨o,r⟩
 ·exact x a u r
 ·obtain ⟨_,q⟩:=x a _ r
  exact q
def Mut:Option HO->Prop
 |some (.lst _)=>True
 |some (.dK _)=>True
 |some (.dT _)=>True
 |some (.set _ _)=>True
 |some (.ins _ _ _)=>True
 |some (.ext _)=>True
 |_=>False
section
variable {P:Program} {w:World} {H:Hp} {h h':Heap} {x e:Addr} {o':HO}
theorem HOk.write (ok:HOk P w H h) (mu:Mut (H x)) (he:e=x∨H e=some (.own x)) (k:∀ b u,b≠e->h.get? b=some u->h'.get? b=some u) (heo:∃ u,h'.get? e=some u)
 (new:ab6 P w (upd H x o') h' x o'):HOk P w (upd H x o') h':=fun b u q=>by
 have nown:∀ c y,H c=some (.own y)->c≠x:=fun c y r z=>by subst z;rw [r] at mu;exact mu
 have ntup:∀ c xs,H c=some (.tup xs)->c≠x:=fun c xs r z=>by subst z;rw [r] at mu;exact mu
 by_cases hb:b=x
 ·subst hb;rw [a02] at q;cases q;exact new
 ·rw [a68 hb] at q
  by_cases hbe:b=e
  ·have q':H b=some (.own x):=by
    rcases he with z|z
    ·exact absurd (hbe.trans z) hb
    ·rw [hbe];exact z
   rw [q] at q';cases q'
   obtain ⟨v,hv⟩:=heo
   exact ⟨v,by rw [hbe];exact hv⟩
  ·refine (ok b u q).stay (fun c v hc r=>k c v ?_ r) (fun c r=>by rw [a68 (nown c b r)];exact r) fun c xs r=>by rw [a68 (ntup c xs r)];exact r
   rcases hc with rfl|hc
   ·exact hbe
   ·rintro rfl
    rcases he with z|z
    ·exact nown c b hc z
    ·rw [hc] at z;cases z;exact hb rfl
end
structure Un (fs ex:List Addr) (H H':Hp) (h h':Heap):Prop where
 keep:∀ b o,h.get? b=some o->H b=none->b∉fs->b∉ex->h'.get? b=some o
 slot:∀ b o,h.get? b=some o->H b=none->b∈fs->b∉ex->∃ sl,h'.get? b=some { o with slots:=sl }
 free:∀ b o,h.get? b=some o->H b=none->b∉ex->H' b=none
 there:∀ b o,h.get? b=some o->b∉ex->∃ o',h'.get? b=some o'
 tups:∀ b xs,H b=some (.tup xs)->H' b=some (.tup xs)
 frzs:∀ b o u,H b=some (.frz o u)->H' b=some (.frz o u)
 tbls:∀ b ps,H b=some (.tbl ps)->∃ more,H' b=some (.tbl (ps++more))
section
variable {fs fs' ex ex':List Addr} {H H1 H2:Hp} {h h1 h2 h':Heap} {a x e:Addr} {o:HO}
theorem Un.any (u:Un fs ex H H1 h h1) {b:Addr} {ob:Obj} (q:h.get? b=some ob) (n:H b=none) (hx:b∉ex):∃ sl,h1.get? b=some { ob with slots:=sl }:=by
 by_cases hb:b∈fs
 ·exact u.slot b ob q n hb hx
 ·exact ⟨ob.slots,u.keep b ob q n hb hx⟩
theorem Un.kept (k:∀ b u,h.get? b=some u->h'.get? b=some u):Un fs ex H H h h':=
 ⟨fun b ob q _ _ _=>k b ob q,fun b ob q _ _ _=>⟨ob.slots,k b ob q⟩,fun _ _ _ n _=>n,fun b ob q _=>⟨ob,k b ob q⟩,fun _ _ q=>q,fun _ _ _ q=>q,fun _ ps q=>⟨#[],by rw [q];simp⟩⟩
theorem Un.refl:Un fs ex H H h h:=Un.kept fun _ _ q=>q
theorem Un.laid (k:∀ b u,h.get? b=some u->h'.get? b=some u) (hp:h.objs.size≤a) (hn:H a=none):Un fs ex H (upd H a o) h h' where
 keep:=fun b u q _ _ _=>k b u q
 slot:=fun b u q _ _ _=>⟨u.slots,k b u q⟩
 free:=fun b u q n _=>by rw [a68 (Nat.ne_of_lt (Nat.lt_of_lt_of_le (Heap.lt_size q) hp))];exact n
 there:=fun b u q _=>⟨u,k b u q⟩
 tups:=fun b xs q=>by rw [a68 (a70 q hn)];exact q
 frzs:=fun b u xs q=>by rw [a68 (a70 q hn)];exact q
 tbls:=fun b ps q=>⟨#[],by rw [a68 (a70 q hn),q];simp⟩
theorem Un.write (mu:Mut (H x)) (he:e=x∨H e=some (.own x)) (k:∀ b u,b≠e->h.get? b=some u->h'.get? b=some u) (heo:∃ u,h'.get? e=some u):Un fs ex H (upd H x o) h h':=by
 have hx:∀ b,H b=none->b≠x:=fun b n z=>by subst z;rw [n] at mu;exact mu
 have hb:∀ b,H b=none->b≠e:=fun b n z=>by
  subst z
  rcases he with r|r
  ·exact hx b n r
  ·rw [n] at r;cases r
 have hm:∀ b u,H b=some u->¬ Mut (some u)->b≠x:=fun b u q nm z=>by subst z;rw [q] at mu;exact nm mu
 refine ⟨fun b u q n _ _=>k b u (hb b n) q,fun b u q n _ _=>⟨u.slots,k b u (hb b n) q⟩,fun b u q n _=>by rw [a68 (hx b n)];exact n,fun b u q _=>?_,
  fun b xs q=>by rw [a68 (hm b _ q fun z=>z)];exact q,fun b u xs q=>by rw [a68 (hm b _ q fun z=>z)];exact q,fun b ps q=>⟨#[],by rw [a68 (hm b _ q fun z=>z),q];simp⟩⟩
 by_cases hbe:b=e
 ·subst hbe;exact heo
 ·exact ⟨u,k b u hbe q⟩
end
def trk (h:Heap) (H:Hp):List Addr:=(List.range h.objs.size).filter fun a=>(H a).isSome
def hidT (h:Heap) (H:Hp):Heap:=PySem.W.hideAll h (trk h H)
theorem hidT_size (h:Heap) (H:Hp):(hidT h H).objs.size=h.objs.size:=PySem.W.hideAll_size _ _
theorem aq7 {h:Heap} {H:Hp} {b:Addr} {o:Obj} (e:h.get? b=some o) (n:H b=none):(hidT h H).get? b=some o:=
 PySem.W.hideAll_get _ e fun hm=>by
  have q:(H b).isSome=true:=(List.mem_filter.mp hm).2
  rw [n] at q;simp at q
theorem of_hidT {h:Heap} {H:Hp} {b:Addr} {o:Obj} (e:(hidT h H).get? b=some o):h.get? b=some o/\H b=none:=by
 have e':h.get? b=some o:=PySem.W.of_hideAll (trk h H) e
 refine ⟨e',?_⟩
 cases q:H b with
 |none=>rfl
 | some x=>
   have hm:b∈trk h H:=List.mem_filter.mpr ⟨List.mem_range.mpr (Heap.lt_size e'),by simp [q]⟩
   have z:(hidT h H).get? b=none:=PySem.W.hideAll_none (trk h H) hm
   rw [z] at e;cases e
structure Mod (K:PySem.W.Frag) (mg:Str->Option Value) (base:Heap):Prop where
 kin:K.In base
 glob:base.Ns mainGlobals mg
 blt:∃ mb,base.Ns builtinsNs mb/\∀ x:Str,x ≠ "__name__"->mb x=bootBuiltins x
 nolimit:base.NoLimit
structure Cx where
 prog:Program
 w:World
 K:PySem.W.Frag
 mg:Str->Option Value
 base:Heap
 A:Around
 N:List Str
 s₀:Shared
 H₀:Hp
 env:Env
 outer:List Env
 stack:List Env
 ex:List Addr
 fn:Str->Bool
 calm:Bool
 pn:List (Addr×Obj)
 xe:Value->Shared->Prop
def frs (l:List Env):List Addr:=l.filterMap (·.frame)
abbrev Cx.fs (X:Cx):List Addr:=frs X.outer
def Vis (sc:Scope) (x:Str):Prop:=sc.names.lookup x=some .local∨sc.names.lookup x=some .cell∨sc.names.lookup x=some .free
def Loc (sc:Scope) (x:Str):Prop:=sc.names.lookup x=some .local∨sc.names.lookup x=some .cell
def Look (env:Env) (h:Heap) (m:Str->Option Value) (x:Str) (u:Value):Prop:=
 (env.kindOf x=some .local/\m x=some u)∨((env.kindOf x=some .cell∨env.kindOf x=some .free)/\∃ c,env.cells.lookup x=some c/\h.IsCell c (some u))
structure Cx.Ok (X:Cx):Prop where
 mod:Mod X.K X.mg X.base
 kind:X.env.scope.kind=.function
 glob:X.env.globals=mainGlobals
 blt:X.env.builtins=builtinsNs
 above:X.s₀.heap.objs.size≤X.env.locals
 inj:∀ x y c,X.env.cells.lookup x=some c->X.env.cells.lookup y=some c->x=y
 has:∀ x,(X.env.kindOf x=some .cell∨X.env.kindOf x=some .free)->∃ c,X.env.cells.lookup x=some c
 cab:∀ x c,X.fn x=true->X.env.cells.lookup x=some c->X.s₀.heap.objs.size≤c
 hd:X.calm=true->X.A.handled=none
 frames:X.A.frames=some X.stack
 stk:X.stack=X.outer∨(X.stack=X.env::X.outer/\X.env.frame=some X.env.locals)
 exf:∀ b∈X.ex,b≠X.env.locals/\∀ x c,X.env.cells.lookup x=some c->c≠b
 bs:∀ b o,X.base.get? b=some o->X.s₀.heap.get? b=some o/\X.H₀ b=none
 bsz:X.base.objs.size≤X.s₀.heap.objs.size
 noex:∀ b o,X.base.get? b=some o->b∉X.ex
 exfs:∀ b∈X.ex,b∉X.fs
 funs:X.s₀.heap.FunFrames X.base X.outer
 frf:∀ b∈X.fs,X.H₀ b=none
structure Inv (X:Cx) (pins:List (Addr×Obj)) (σ:List (Option V)) (H:Hp) (s:Shared):Prop where
 ok:X.Ok
 os:s.os=X.s₀.os
 bare:AllBare s.gens
 base:Un X.fs X.ex X.H₀ H X.s₀.heap s.heap
 loc:∃ m,s.heap.Ns X.env.locals m/\∀ (i:Nat) (x:Str) (v:V),X.N[i]?=some x->σ[i]?=some (some v)->Vis X.env.scope x->∃ u,RelV v u/\Look X.env s.heap m x u
 cell:∀ x c,X.env.cells.lookup x=some c->∃ v,s.heap.IsCell c v
 free:H X.env.locals=none
 freeC:∀ x c,X.env.cells.lookup x=some c->H c=none
 pin:∀ p∈X.pn++pins,s.heap.get? p.1=some p.2/\H p.1=none/\p.1≠X.env.locals/\p.1∉X.fs/\∀ v,p.2.data≠.cell v
 hok:HOk X.prog X.w H s.heap
 len:σ.length=X.N.length
section
variable {X:Cx} {pins:List (Addr×Obj)} {σ:List (Option V)} {H H':Hp} {s:Shared} {h':Heap}
theorem Cx.Ok.nofr (ok:X.Ok) {b:Addr} {o:Obj} (e:X.base.get? b=some o):b∉X.fs:=fun hb=>by
 have:=(ok.funs.mem hb).1
 rw [e] at this;cases this
theorem Inv.bs (I:Inv X pins σ H s):∀ b o,X.base.get? b=some o->s.heap.get? b=some o/\H b=none:=fun b o e=>
 ⟨I.base.keep b o (I.ok.bs b o e).1 (I.ok.bs b o e).2 (I.ok.nofr e) (I.ok.noex b o e),I.base.free b o (I.ok.bs b o e).1 (I.ok.bs b o e).2 (I.ok.noex b o e)⟩
theorem Inv.bk (I:Inv X pins σ H s):∀ b o,X.base.get? b=some o->s.heap.get? b=some o:=fun b o e=>(I.bs b o e).1
theorem Inv.mod (I:Inv X pins σ H s):Mod X.K X.mg X.base:=I.ok.mod
theorem Inv.kIn (I:Inv X pins σ H s):X.K.In s.heap:=I.ok.mod.kin.keeps I.bk
theorem Inv.fr (I:Inv X pins σ H s):∃ m,Fr X.base X.env.locals s.heap m:=
 let ⟨m,hn,_⟩:=I.loc
 ⟨m,hn,I.bk,Nat.le_trans I.ok.bsz I.ok.above⟩
theorem Inv.lt (I:Inv X pins σ H s):X.env.locals<s.heap.objs.size:=let ⟨_,hn,_⟩:=I.loc;hn.lt
theorem Inv.sz (I:Inv X pins σ H s):X.s₀.heap.objs.size≤s.heap.objs.size:=Nat.le_trans I.ok.above (Nat.le_of_lt I.lt)
theorem Inv.nofs (I:Inv X pins σ H s) {a:Addr} (h:s.heap.objs.size≤a):a∉X.fs:=fun hb=>by
 obtain ⟨_,o,ho,_⟩:=I.ok.funs.mem hb
 exact absurd (Nat.lt_of_lt_of_le (Heap.lt_size ho) (Nat.le_trans I.sz h)) (Nat.lt_irrefl _)
theorem Inv.cne (I:Inv X pins σ H s):∀ x c,X.env.cells.lookup x=some c->c≠X.env.locals:=fun x c e z=>by
 obtain ⟨v,o,ho,hd⟩:=I.cell x c e
 obtain ⟨m,⟨o',es,ep,ho',hd',_⟩,_⟩:=I.loc
 rw [z,ho'] at ho;cases ho;rw [hd'] at hd;cases hd
theorem Inv.funs (I:Inv X pins σ H s):s.heap.FunFrames X.base X.outer:=by
 have all:∀ (l:List Env),(∀ b∈frs l,b∈X.fs)->X.s₀.heap.FunFrames X.base l->s.heap.FunFrames X.base l:=by
  intro l
  induction l with
  |nil=>intro _ _;trivial
  | cons env r ih=>
    intro hs hl
    obtain ⟨hk,⟨L,o,hf,hn,ho,hd⟩,hr⟩:=hl
    have hL:L∈X.fs:=hs L (by unfold frs;rw [List.filterMap_cons,hf];exact List.mem_cons_self)
    obtain ⟨sl,e⟩:=I.base.slot L o ho (I.ok.frf L hL) hL fun z=>I.ok.exfs L z hL
    exact ⟨hk,⟨L,_,hf,hn,e,hd⟩,ih (fun b hb=>hs b (by unfold frs;rw [List.filterMap_cons,hf];exact List.mem_cons_of_mem _ hb)) hr⟩
 exact all X.outer (fun _ hb=>hb) I.ok.funs
theorem Inv.stack (I:Inv X pins σ H s):s.heap.FunFrames X.base X.stack:=by
 rcases I.ok.stk with e|⟨e,hf⟩
 ·rw [e];exact I.funs
 ·rw [e]
  obtain ⟨m,hn,_⟩:=I.loc
  refine .cons (by rw [I.ok.kind];decide) hf hn ?_ I.funs
  exact Heap.get?_none_of_le (Nat.le_trans I.ok.bsz I.ok.above)
theorem Inv.stkSub (I:Inv X pins σ H s):∀ b∈frs X.stack,b∈X.env.locals::X.fs:=fun b hb=>by
 rcases I.ok.stk with e|⟨e,hf⟩
 ·rw [e] at hb;exact List.mem_cons_of_mem _ hb
 ·rw [e] at hb
  unfold frs at hb
  rw [List.filterMap_cons,hf] at hb
  exact hb
theorem Inv.stkFree (I:Inv X pins σ H s):∀ b∈frs X.stack,H b=none:=fun b hb=>by
 rcases List.mem_cons.mp (I.stkSub b hb) with e|hb
 ·rw [e];exact I.free
 ·obtain ⟨_,o,ho,_⟩:=I.ok.funs.mem hb
  exact I.base.free b o ho (I.ok.frf b hb) fun z=>I.ok.exfs b z hb
theorem Inv.step {g':Array GenState} {t':Nat} {d':Drawn} {ch:List Addr} (I:Inv X pins σ H s)
 (hch:∀ b∈ch,(b∈X.ex∨X.s₀.heap.objs.size≤b)/\b≠X.env.locals/\(∀ x c,X.env.cells.lookup x=some c->c≠b)/\∀ p∈X.pn++pins,p.1≠b)
 (keep:∀ b o,b≠X.env.locals->b∉X.fs->b∉ch->s.heap.get? b=some o->H b=none->h'.get? b=some o)
 (slot:∀ b o,b≠X.env.locals->b∈X.fs->b∉ch->s.heap.get? b=some o->H b=none->∃ sl,h'.get? b=some { o with slots:=sl }) (free:∀ b o,b∉ch->s.heap.get? b=some o->H b=none->H' b=none)
 (there:∀ b o,b∉ch->s.heap.get? b=some o->∃ o',h'.get? b=some o')
 (tups:∀ b xs,H b=some (.tup xs)->H' b=some (.tup xs)) (frzs:∀ b o u,H b=some (.frz o u)->H' b=some (.frz o u)) (tbls:∀ b ps,H b=some (.tbl ps)->∃ more,H' b=some (.tbl (ps++more)))
 (ns:∀ m,s.heap.Ns X.env.locals m->h'.Ns X.env.locals m) (hok:HOk X.prog X.w H' h') (hg:AllBare g') :
 Inv X pins σ H' { s with heap:=h',gens:=g',drawn:=d',toks:=t' }:=by
 have neL:∀ b o,X.s₀.heap.get? b=some o->b≠X.env.locals:=fun b o e=>Nat.ne_of_lt (Nat.lt_of_lt_of_le (Heap.lt_size e) I.ok.above)
 have neC:∀ b o,X.s₀.heap.get? b=some o->b∉X.ex->b∉ch:=fun b o e hx hb=>by
  rcases (hch b hb).1 with z|z
  ·exact hx z
  ·exact absurd (Nat.lt_of_lt_of_le (Heap.lt_size e) z) (Nat.lt_irrefl _)
 have cellK:∀ x c,X.env.cells.lookup x=some c->∀ v,s.heap.IsCell c v->h'.IsCell c v:=fun x c e v ⟨o,ho,hd⟩=>by
  have nch:c∉ch:=fun z=>(hch c z).2.2.1 x c e rfl
  by_cases hc:c∈X.fs
  ·obtain ⟨sl,q⟩:=slot c o (I.cne x c e) hc nch ho (I.freeC x c e)
   exact ⟨_,q,hd⟩
  ·exact ⟨o,keep c o (I.cne x c e) hc nch ho (I.freeC x c e),hd⟩
 refine ⟨I.ok,I.os,hg,⟨fun b o e n hb hx=>?_,fun b o e n hb hx=>?_,fun b o e n hx=>?_,fun b o e hx=>?_,fun b xs e=>tups b xs (I.base.tups b xs e),fun b o xs e=>frzs b o xs (I.base.frzs b o xs e),fun b ps e=>?_⟩,?_,fun x c e=>?_,?_,fun x c e=>?_,fun p hp=>?_,hok,I.len⟩
 ·exact keep b o (neL b o e) hb (neC b o e hx) (I.base.keep b o e n hb hx) (I.base.free b o e n hx)
 ·obtain ⟨sl,e1⟩:=I.base.slot b o e n hb hx
  obtain ⟨sl',e2⟩:=slot b _ (neL b o e) hb (neC b o e hx) e1 (I.base.free b o e n hx)
  exact ⟨sl',e2⟩
 ·obtain ⟨o',e1⟩:=I.base.there b o e hx
  exact free b o' (neC b o e hx) e1 (I.base.free b o e n hx)
 ·obtain ⟨o',e1⟩:=I.base.there b o e hx
  exact there b o' (neC b o e hx) e1
 ·obtain ⟨m1,e1⟩:=I.base.tbls b ps e
  obtain ⟨m2,e2⟩:=tbls b _ e1
  exact ⟨m1++m2,by rw [e2,Array.append_assoc]⟩
 ·obtain ⟨m,hn,hl⟩:=I.loc
  refine ⟨m,ns m hn,fun i x v e1 e2 e3=>?_⟩
  obtain ⟨u,r,l⟩:=hl i x v e1 e2 e3
  refine ⟨u,r,?_⟩
  rcases l with l|⟨k,c,e,z⟩
  ·exact .inl l
  ·exact .inr ⟨k,c,e,cellK x c e _ z⟩
 ·obtain ⟨v,z⟩:=I.cell x c e
  exact ⟨v,cellK x c e v z⟩
 ·obtain ⟨m,⟨o,_,_,ho,_⟩,_⟩:=I.loc
  exact free _ o (fun z=>(hch _ z).2.1 rfl) ho I.free
 ·obtain ⟨v,o,ho,hd⟩:=I.cell x c e
  exact free c o (fun z=>(hch c z).2.2.1 x c e rfl) ho (I.freeC x c e)
 ·obtain ⟨e,n,ne,nf,d⟩:=I.pin p hp
  have nch:p.1∉ch:=fun z=>(hch p.1 z).2.2.2 p hp rfl
  exact ⟨keep p.1 p.2 ne nf nch e n,free p.1 p.2 nch e n,ne,nf,d⟩
theorem Inv.un {t':Nat} (I:Inv X pins σ H s) (u:Un X.fs [] H H' s.heap h') (hok:HOk X.prog X.w H' h'):Inv X pins σ H' { s with heap:=h',toks:=t' }:=by
 obtain ⟨m,⟨o,es,ep,ho,r⟩,_⟩:=id I.loc
 obtain ⟨sl,hL⟩:=u.any ho I.free (by simp)
 exact I.step (g':=s.gens) (d':=s.drawn) (ch:=[]) (fun _ z=>nomatch z) (fun b o _ hb _ e n=>u.keep b o e n hb (by simp)) (fun b o _ hb _ e n=>u.slot b o e n hb (by simp)) (fun b o _ e n=>u.free b o e n (by simp)) (fun b o _ e=>u.there b o e (by simp)) u.tups u.frzs u.tbls (fun m' hm=>by
  obtain ⟨o',es',ep',ho',r'⟩:=hm
  rw [ho] at ho';cases ho'
  exact ⟨_,es',ep',hL,r'⟩) hok I.bare
theorem Inv.call {g':Array GenState} {t':Nat} {d':Drawn} {ch:List Addr} (I:Inv X pins σ H s) (u:Un (frs X.stack) ch H H' s.heap h') (hok:HOk X.prog X.w H' h') (hg:AllBare g')
 (hch:∀ b∈ch,(b∈X.ex∨X.s₀.heap.objs.size≤b)/\b≠X.env.locals/\(∀ x c,X.env.cells.lookup x=some c->c≠b)/\∀ p∈X.pn++pins,p.1≠b) :
 Inv X pins σ H' { s with heap:=h',gens:=g',drawn:=d',toks:=t' }:=by
 obtain ⟨m,⟨o,es,ep,ho,r⟩,_⟩:=id I.loc
 obtain ⟨sl,hL⟩:=u.any ho I.free fun z=>(hch _ z).2.1 rfl
 exact I.step (ch:=ch) hch (fun b o hL hb hc e n=>u.keep b o e n (fun z=>(List.mem_cons.mp (I.stkSub b z)).elim hL hb) hc) (fun b o _ _ hc e n=>u.any e n hc) (fun b o hc e n=>u.free b o e n hc) (fun b o hc e=>u.there b o e hc) u.tups u.frzs u.tbls (fun m' hm=>by
  obtain ⟨o',es',ep',ho',r'⟩:=hm
  rw [ho] at ho';cases ho'
  exact ⟨_,es',ep',hL,r'⟩) hok hg
theorem Inv.turned {t':Nat} {it:Addr} (I:Inv X pins σ H s) (k:∀ b o,b≠it->s.heap.get? b=some o->h'.get? b=some o) (hn:H it=none) (hL:it≠X.env.locals)
 (h1:it∈X.ex∨X.s₀.heap.objs.size≤it) (h2:∀ x c,X.env.cells.lookup x=some c->c≠it) (h3:∀ p∈X.pn++pins,p.1≠it):Inv X pins σ H { s with heap:=h',toks:=t' }:=by
 have nit:∀ b u,H b=some u->b≠it:=fun b u e z=>by rw [z,hn] at e;cases e
 refine I.step (g':=s.gens) (d':=s.drawn) (ch:=[it]) (fun b hb=>?_) (fun b o _ _ hc e _=>k b o (fun z=>hc (by simp [z])) e) (fun b o _ _ hc e _=>⟨o.slots,k b o (fun z=>hc (by simp [z])) e⟩) (fun _ _ _ _ n=>n)
  (fun b o hc e=>⟨o,k b o (fun z=>hc (by simp [z])) e⟩) (fun _ _ e=>e) (fun _ _ _ e=>e) (fun b ps e=>⟨#[],by rw [e];simp⟩) (fun m hm=>?_) (fun b u e=>?_) I.bare
 ·have e:b=it:=by simpa using hb
  subst e
  exact ⟨h1,hL,h2,h3⟩
 ·obtain ⟨o,es,ep,ho,r⟩:=hm
  exact ⟨o,es,ep,k _ o (Ne.symm hL) ho,r⟩
 ·refine (I.hok b u e).stay (fun c v hc q=>k c v ?_ q) (fun _ q=>q) fun _ _ q=>q
  rcases hc with z|z
  ·rw [z];exact nit b u e
  ·exact nit c _ z
theorem Inv.tok (I:Inv X pins σ H s) (t:Nat):Inv X pins σ H { s with toks:=t }:=I.un (h':=s.heap) (t':=t) Un.refl I.hok
theorem Inv.kept {t':Nat} (I:Inv X pins σ H s) (k:∀ b u,s.heap.get? b=some u->h'.get? b=some u):Inv X pins σ H { s with heap:=h',toks:=t' }:=I.un (Un.kept k) (I.hok.kept k)
theorem Inv.laid {a:Addr} {o:HO} {t':Nat} (I:Inv X pins σ H s) (k:∀ b u,s.heap.get? b=some u->h'.get? b=some u) (hp:s.heap.objs.size≤a) (new:ab6 X.prog X.w (upd H a o) h' a o) :
 Inv X pins σ (upd H a o) { s with heap:=h',toks:=t' }:=I.un (Un.laid k hp (I.hok.fresh hp)) (I.hok.laid k hp new)
theorem Inv.write {x e:Addr} {o:HO} {t':Nat} (I:Inv X pins σ H s) (mu:Mut (H x)) (he:e=x∨H e=some (.own x)) (k:∀ b u,b≠e->s.heap.get? b=some u->h'.get? b=some u) (heo:∃ u,h'.get? e=some u)
 (new:ab6 X.prog X.w (upd H x o) h' x o):Inv X pins σ (upd H x o) { s with heap:=h',toks:=t' }:=I.un (Un.write mu he k heo) (I.hok.write mu he k heo new)
theorem Inv.pins_of {pins':List (Addr×Obj)} (I:Inv X pins σ H s) (h:∀ p∈pins',s.heap.get? p.1=some p.2/\H p.1=none/\p.1≠X.env.locals/\p.1∉X.fs/\∀ v,p.2.data≠.cell v):Inv X pins' σ H s:=
 ⟨I.ok,I.os,I.bare,I.base,I.loc,I.cell,I.free,I.freeC,fun p hp=>(List.mem_append.mp hp).elim (fun z=>I.pin p (List.mem_append_left _ z)) (h p),I.hok,I.len⟩
theorem am3 {N:List Str} (hN:N.Nodup) {i j:Nat} {x:Str} (a:N[i]?=some x) (b:N[j]?=some x):i=j:=by
 obtain ⟨h1,e1⟩:=List.getElem?_eq_some_iff.mp a
 obtain ⟨h2,e2⟩:=List.getElem?_eq_some_iff.mp b
 exact (List.getElem_inj hN).mp (e1.trans e2.symm)
theorem store_ok2 {M:Model} {A:Around} {E:Value->Shared->Prop} {i:Nat} {x:Str} {v:V} {u:Value} {Q:Unit->Shared->Prop} (I:Inv X pins σ H s) (hN:X.N.Nodup) (hi:X.N[i]?=some x) (hx:Loc X.env.scope x) (r:RelV v u)
 (h:∀ s',Inv X pins (σ.set i (some v)) H s'->(∃ a,Heap.SameBut a s.heap s'.heap/\(a=X.env.locals∨X.env.cells.lookup x=some a))->Q () s') (hf:X.fn x=true∨X.env.scope.names.lookup x=some .local:=by first|exact .inl rfl|exact .inr rfl|assumption):wpAny M A (storeName X.env x u) Q E s:=by
 obtain ⟨m,hn,hl⟩:=id I.loc
 have hcls:(X.env.scope.kind == .class || (X.env.scope.kind == .module && X.env.locals != X.env.globals))=false:=by rw [I.ok.kind];rfl
 have hiσ:i<σ.length:=by rw [I.len];exact (List.getElem?_eq_some_iff.mp hi).1
 have cne:=I.cne
 have tracked:∀ {a:Addr} {h':Heap},(∃ o,s.heap.get? a=some o/\H a=none)->Heap.SameBut a s.heap h'->HOk X.prog X.w H h':=fun {a h'} ha hs b ob e=>by
  obtain ⟨_,_,hfree⟩:=ha
  refine (I.hok b ob e).stay (fun c w' hc q=>(hs.2 c ?_).trans q) (fun _ q=>q) fun _ _ q=>q
  rintro rfl
  rcases hc with rfl|hc
  ·rw [hfree] at e;cases e
  ·rw [hfree] at hc;cases hc
 rcases hx with hk|hk
 ·refine wpAny_storeName_local hk hn (fun h' hn' hs=>?_) hcls
  obtain ⟨oL,_,_,hoL,_⟩:=id hn
  refine h _ ⟨I.ok,I.os,I.bare,⟨fun b o e n hb hx=>?_,fun b o e n hb hx=>?_,I.base.free,fun b o e hx=>?_,I.base.tups,I.base.frzs,I.base.tbls⟩,⟨_,hn',fun j y v' e1 e2 e3=>?_⟩,fun y c e=>?_,I.free,I.freeC,fun p hp=>?_,tracked ⟨oL,hoL,I.free⟩ hs,by simpa using I.len⟩ ⟨_,hs,.inl rfl⟩
  ·exact (hs.2 b (Nat.ne_of_lt (Nat.lt_of_lt_of_le (Heap.lt_size e) I.ok.above))).trans (I.base.keep b o e n hb hx)
  ·obtain ⟨sl,e1⟩:=I.base.slot b o e n hb hx
   exact ⟨sl,(hs.2 b (Nat.ne_of_lt (Nat.lt_of_lt_of_le (Heap.lt_size e) I.ok.above))).trans e1⟩
  ·obtain ⟨o',e1⟩:=I.base.there b o e hx
   exact ⟨o',(hs.2 b (Nat.ne_of_lt (Nat.lt_of_lt_of_le (Heap.lt_size e) I.ok.above))).trans e1⟩
  ·by_cases hj:j=i
   ·subst hj
    rw [hi] at e1;cases e1
    rw [List.getElem?_set_self hiσ] at e2
    cases e2
    exact ⟨u,r,.inl ⟨hk,by simp⟩⟩
   ·rw [List.getElem?_set_ne (Ne.symm hj)] at e2
    obtain ⟨u',r',q⟩:=hl j y v' e1 e2 e3
    refine ⟨u',r',?_⟩
    rcases q with ⟨k,e⟩|⟨k,c,e,z⟩
    ·refine .inl ⟨k,?_⟩
     have:y≠x:=fun e=>hj (am3 hN e1 (e ▸ hi))
     simp [this,e]
    ·exact .inr ⟨k,c,e,z.sameBut hs (cne y c e)⟩
  ·obtain ⟨w',z⟩:=I.cell y c e
   exact ⟨w',z.sameBut hs (cne y c e)⟩
  ·obtain ⟨e,n,ne,nf,d⟩:=I.pin p hp
   exact ⟨(hs.2 p.1 ne).trans e,n,ne,nf,d⟩
 ·have hfn:X.fn x=true:=by
   rcases hf with z|z
   ·exact z
   ·rw [z] at hk;cases hk
  obtain ⟨c,hc⟩:=I.ok.has x (.inl hk)
  obtain ⟨w',z⟩:=I.cell x c hc
  refine wpAny_storeName_cell I.ok.kind hk hc z (fun h' hc' hs=>?_)
  obtain ⟨oc,hoc,hocd⟩:=id z
  refine h { s with heap:=h' } ⟨I.ok,I.os,I.bare,⟨fun b o e n hb hx=>?_,fun b o e n hb hx=>?_,I.base.free,fun b o e hx=>?_,I.base.tups,I.base.frzs,I.base.tbls⟩,⟨m,hn.sameBut hs (Ne.symm (cne x c hc)),fun j y v' e1 e2 e3=>?_⟩,fun y c' e=>?_,I.free,I.freeC,fun p hp=>?_,tracked ⟨oc,hoc,I.freeC x c hc⟩ hs,by simpa using I.len⟩ ⟨c,hs,.inr hc⟩
  ·exact (hs.2 b (Nat.ne_of_lt (Nat.lt_of_lt_of_le (Heap.lt_size e) (I.ok.cab x c hfn hc)))).trans (I.base.keep b o e n hb hx)
  ·obtain ⟨sl,e1⟩:=I.base.slot b o e n hb hx
   exact ⟨sl,(hs.2 b (Nat.ne_of_lt (Nat.lt_of_lt_of_le (Heap.lt_size e) (I.ok.cab x c hfn hc)))).trans e1⟩
  ·obtain ⟨o',e1⟩:=I.base.there b o e hx
   exact ⟨o',(hs.2 b (Nat.ne_of_lt (Nat.lt_of_lt_of_le (Heap.lt_size e) (I.ok.cab x c hfn hc)))).trans e1⟩
  ·by_cases hj:j=i
   ·subst hj
    rw [hi] at e1;cases e1
    rw [List.getElem?_set_self hiσ] at e2
    cases e2
    exact ⟨u,r,.inr ⟨.inl hk,c,hc,hc'⟩⟩
   ·rw [List.getElem?_set_ne (Ne.symm hj)] at e2
    obtain ⟨u',r',q⟩:=hl j y v' e1 e2 e3
    refine ⟨u',r',?_⟩
    rcases q with q|⟨k,c',e,z'⟩
    ·exact .inl q
    ·refine .inr ⟨k,c',e,z'.sameBut hs ?_⟩
     rintro rfl
     exact hj (am3 hN e1 (I.ok.inj _ _ _ e hc ▸ hi))
  ·by_cases hcc:c'=c
   ·subst hcc;exact ⟨_,hc'⟩
   ·obtain ⟨w2,z2⟩:=I.cell y c' e
    exact ⟨w2,z2.sameBut hs hcc⟩
  ·obtain ⟨e,n,ne,nf,d⟩:=I.pin p hp
   refine ⟨(hs.2 p.1 ?_).trans e,n,ne,nf,d⟩
   intro q
   rw [q,hoc] at e
   have q':oc=p.2:=Option.some.inj e
   exact d w' (by rw [← q'];exact hocd)
theorem aj4 {M:Model} {A:Around} {E:Value->Shared->Prop} {i:Nat} {x:Str} {v:V} {u:Value} {Q:Unit->Shared->Prop} (I:Inv X pins σ H s) (hN:X.N.Nodup) (hi:X.N[i]?=some x) (hx:Loc X.env.scope x) (r:RelV v u)
 (h:∀ s',Inv X pins (σ.set i (some v)) H s'->Q () s') (hf:X.fn x=true∨X.env.scope.names.lookup x=some .local:=by first|exact .inl rfl|exact .inr rfl|assumption):wpAny M A (storeName X.env x u) Q E s:=
 store_ok2 I hN hi hx r (fun s' I' _=>h s' I') hf
theorem Inv.call' {s':Shared} {ch:List Addr} (I:Inv X pins σ H s) (ho:s'.os=s.os) (u:Un (frs X.stack) ch H H' s.heap s'.heap) (hok:HOk X.prog X.w H' s'.heap) (hg:AllBare s'.gens)
 (hch:∀ b∈ch,(b∈X.ex∨X.s₀.heap.objs.size≤b)/\b≠X.env.locals/\(∀ x c,X.env.cells.lookup x=some c->c≠b)/\∀ p∈X.pn++pins,p.1≠b):Inv X pins σ H' s':=by
 obtain ⟨h',g',d',t',o'⟩:=s'
 have e:o'=s.os:=ho
 subst e
 exact I.call (g':=g') (t':=t') (d':=d') u hok hg hch
end
abbrev XK:=Value->Option Addr->Hp->Prop
abbrev St:=List (Option V)
abbrev VK:=V->Hp->Prop
abbrev TE:=St->Hp->VK->Prop
abbrev TT:=St->Hp->(Bool->Hp->Prop)->Prop
abbrev TA:=St->Hp->(List V->Hp->Prop)->Prop
structure Ends where
 nx:St->Hp->Prop
 rt:VK
 bk:St->Hp->Prop:=fun _ _=>False
 ct:St->Hp->Prop:=fun _ _=>False
abbrev TS:=Ends->St->Hp->Prop
def EP (X:Cx) (pins:List (Addr×Obj)) (σ:St) (Q:VK) (u:Value) (s':Shared):Prop:=∃ v H',Inv X pins σ H' s'/\RelV v u/\Q v H'
def TP (X:Cx) (pins:List (Addr×Obj)) (σ:St) (Q:Bool->Hp->Prop) (b:Bool) (s':Shared):Prop:=∃ H',Inv X pins σ H' s'/\Q b H'
def AP (X:Cx) (pins:List (Addr×Obj)) (σ:St) (Q:List V->Hp->Prop) (us:List Value) (s':Shared):Prop:=∃ vs H',Inv X pins σ H' s'/\Vals vs us/\Q vs H'
def SP (X:Cx) (pins:List (Addr×Obj)) (D:Ends) (f:Flow) (s':Shared):Prop:=
 match f with
 |.next=>∃ σ' H',Inv X pins σ' H' s'/\D.nx σ' H'
 |.brk=>∃ σ' H',Inv X pins σ' H' s'/\D.bk σ' H'
 |.cont=>∃ σ' H',Inv X pins σ' H' s'/\D.ct σ' H'
 |.ret u=>∃ v σ' H',Inv X pins σ' H' s'/\RelV v u/\D.rt v H'
def PE (X:Cx) (e:Expr) (t:TE):Prop:=
 ∀ (pins:List (Addr×Obj)) (s:Shared) (σ:St) (H:Hp) (Q:VK),Inv X pins σ H s->t σ H Q->wpAny (model X.prog X.w) X.A (eval e X.env) (EP X pins σ Q) X.xe s
def PT (X:Cx) (e:Expr) (t:TT):Prop:=
 ∀ (pins:List (Addr×Obj)) (s:Shared) (σ:St) (H:Hp) (Q:Bool->Hp->Prop),Inv X pins σ H s->t σ H Q->wpAny (model X.prog X.w) X.A (isTrue e X.env (eval e X.env)) (TP X pins σ Q) X.xe s
def PW (X:Cx) (e:Expr) (t:TT):Prop:=
 ∀ (whole:Sem Value) (pins:List (Addr×Obj)) (s:Shared) (σ:St) (H:Hp) (Q:Bool->Hp->Prop),Inv X pins σ H s->t σ H Q->wpAny (model X.prog X.w) X.A (isTrue e X.env whole) (TP X pins σ Q) X.xe s
theorem PW.pt {X:Cx} {e:Expr} {t:TT} (h:PW X e t):PT X e t:=h _
def PA (X:Cx) (es:List Expr) (t:TA):Prop:=
 ∀ (pos:Pos) (pins:List (Addr×Obj)) (s:Shared) (σ:St) (H:Hp) (Q:List V->Hp->Prop),Inv X pins σ H s->t σ H Q->wpAny (model X.prog X.w) X.A (spliced (backTo pos (starEach es X.env))) (AP X pins σ Q) X.xe s
def PS (X:Cx) (st:Stmt) (t:TS):Prop:=
 ∀ (pins:List (Addr×Obj)) (s:Shared) (σ:St) (H:Hp) (D:Ends),Inv X pins σ H s->t D σ H->wpAny (model X.prog X.w) X.A (exec st X.env) (SP X pins D) X.xe s
def PSs (X:Cx) (st:List Stmt) (t:TS):Prop:=
 ∀ (pins:List (Addr×Obj)) (s:Shared) (σ:St) (H:Hp) (D:Ends),Inv X pins σ H s->t D σ H->wpAny (model X.prog X.w) X.A (execs st X.env) (SP X pins D) X.xe s
theorem thn {α:Type} {t:Sem α} {Q Q':α->Shared->Prop} {M:Model} {A:Around} {E:Value->Shared->Prop} {s:Shared} (h:wpAny M A t Q E s) (hQ:∀ a s,Q a s->Q' a s):wpAny M A t Q' E s:=wpAny_mono h hQ fun _ _ x=>x
section
variable {X:Cx}
theorem bin {a b:Expr} {ta tb:TE} (ha:PE X a ta) (hb:PE X b tb) {pins:List (Addr×Obj)} {s:Shared} {σ:St} {H:Hp} {R:V->V->Hp->Prop} (I:Inv X pins σ H s) (h:ta σ H fun x H1=>tb σ H1 fun y H2=>R x y H2)
 {α:Type} {Q:α->Shared->Prop} {f:Value->Value->Sem α}
 (hf:∀ v u s2 x y H2,Inv X pins σ H2 s2->RelV x v->RelV y u->R x y H2->wpAny (model X.prog X.w) X.A (f v u) Q X.xe s2) :
 wpAny (model X.prog X.w) X.A (eval a X.env) (fun v s₁=>wpAny (model X.prog X.w) X.A (eval b X.env) (fun u s₂=>wpAny (model X.prog X.w) X.A (f v u) Q X.xe s₂) X.xe s₁) X.xe s:=by
 refine thn (ha pins s σ H _ I h) fun v s1 ⟨x,H1,I1,r1,q1⟩=>?_
 refine thn (hb pins s1 σ H1 _ I1 q1) fun u s2 ⟨y,H2,I2,r2,q2⟩=>?_
 exact hf v u s2 x y H2 I2 r1 r2 q2
def tVar (i:Nat):TE:=fun σ H Q=>∃ v,σ[i]?=some (some v)/\Q v H
def tC (v:V):TE:=fun _ H Q=>Q v H
theorem pe_var {i:Nat} {x:Str} {pos:Pos} (hN:X.N[i]?=some x) (hv:Vis X.env.scope x) (hd:(x == ("__debug__" : Str))=false:=by decide) (hcd:(x == ("__classdict__" : Str))=false:=by decide):PE X (.Name x pos) (tVar i):=by
 intro pins s σ H Q I h
 obtain ⟨v,e,h⟩:=h
 obtain ⟨m,hn,hl⟩:=I.loc
 obtain ⟨u,r,l⟩:=hl i x v hN e hv
 have fin:EP X pins σ Q u s:=⟨v,H,I,r,h⟩
 rcases l with ⟨hk,hm⟩|⟨hk,c,hc,hcell⟩
 ·exact wpAny_Name (wpAny_loadName_local I.ok.kind hk hn hm fin) hd
 ·rcases hk with hk|hk
  ·exact wpAny_Name (wpAny_loadName_cell I.ok.kind hk hc hcell fin) hd
  ·exact wpAny_Name (wpAny_loadName_free I.ok.kind hk hc hcell fin hcd) hd
theorem a04 {i j pos}:PE X (.Constant (.int i) j pos) (tC (.int i)):=fun _ _ _ H _ I h=>wpAny_Constant_int ⟨.int i,H,I.tok _,⟨_,rfl⟩,h⟩
theorem ar5 {b j pos}:PE X (.Constant (.bool b) j pos) (tC (.bl b)):=fun _ _ _ H _ I h=>Constant_bool ⟨.bl b,H,I,rfl,h⟩
theorem ak7 {j pos}:PE X (.Constant .none j pos) (tC .non):=fun _ _ _ H _ I h=>Constant_none ⟨.non,H,I,rfl,h⟩
theorem a65 {x j pos}:PE X (.Constant (.str x) j pos) (tC (.str x)):=fun _ _ _ H _ I h=>Calls.Constant_str ⟨.str x,H,I.tok _,⟨_,rfl⟩,h⟩
def Gl (X:Cx) (x:Str):Prop:=X.env.kindOf x=some .globalImplicit
theorem ak2 {E:Value->Shared->Prop} {pins:List (Addr×Obj)} {s:Shared} {σ:St} {H:Hp} {x:Str} {u:Value} {pos:Pos} {Q:Value->Shared->Prop} (I:Inv X pins σ H s) (hg:Gl X x) (hm:X.mg x=some u) (h:Q u s)
 (hd:(x == ("__debug__" : Str))=false:=by decide):wpAny (model X.prog X.w) X.A (eval (.Name x pos) X.env) Q E s:=
 Calls.Name_function_global I.ok.kind hg (Calls.loadGlobal_global (by rw [I.ok.glob];exact I.mod.glob.keeps I.bk) hm h) hd
theorem ak4 {E:Value->Shared->Prop} {pins:List (Addr×Obj)} {s:Shared} {σ:St} {H:Hp} {x:Str} {u:Value} {pos:Pos} {Q:Value->Shared->Prop} (I:Inv X pins σ H s) (hg:Gl X x) (hm:X.mg x=none) (hv:bootBuiltins x=some u) (h:Q u s)
 (hn:x ≠ "__name__":=by decide) (hd:(x == ("__debug__" : Str))=false:=by decide):wpAny (model X.prog X.w) X.A (eval (.Name x pos) X.env) Q E s:=by
 obtain ⟨mb,h1,h2⟩:=I.mod.blt
 exact Calls.Name_function_global I.ok.kind hg (Calls.loadGlobal_builtin (by rw [I.ok.glob];exact I.mod.glob.keeps I.bk) hm (by rw [I.ok.blt];exact h1.keeps I.bk) ((h2 x hn).trans hv) h) hd
theorem ac1 {x:Str} {v:V} {u:Value} {pos:Pos} (hg:Gl X x) (hm:X.mg x=some u) (r:RelV v u) (hd:(x == ("__debug__" : Str))=false:=by decide):PE X (.Name x pos) (tC v):=
 fun _ _ _ H _ I h=>ak2 I hg hm ⟨v,H,I,r,h⟩ hd
theorem pe_bltn {x:Str} {v:V} {u:Value} {pos:Pos} (hg:Gl X x) (hm:X.mg x=none) (hv:bootBuiltins x=some u) (r:RelV v u) (hn:x ≠ "__name__":=by decide) (hd:(x == ("__debug__" : Str))=false:=by decide):PE X (.Name x pos) (tC v):=
 fun _ _ _ H _ I h=>ak4 I hg hm hv ⟨v,H,I,r,h⟩ hn hd
variable {a b:Expr} {ta tb:TE} {pos:Pos}
def PC (X:Cx) (op:CmpOp) (a b:Expr) (t:TE):Prop:=
 ∀ (pins:List (Addr×Obj)) (s:Shared) (σ:St) (H:Hp) (Q:VK),Inv X pins σ H s->t σ H Q->
   wpAny (model X.prog X.w) X.A (eval a X.env) (fun v s₁=>wpAny (model X.prog X.w) X.A (eval b X.env) (fun u s₂=>wpAny (model X.prog X.w) X.A (compareOp op v u) (EP X pins σ Q) X.xe s₂) X.xe s₁) X.xe s
def tB (t:TE):TT:=fun σ H Q=>t σ H fun x H1=>∃ c,x=.bl c/\Q c H1
theorem pt_cmp {op:CmpOp} {t:TE} (h:PC X op a b t) (h1:behindInMarks op b=false:=by first|exact nobehind _ (by decide) (by decide)|rfl):PT X (.Compare a [op] [b] pos) (tB t):=by
 intro pins s σ H Q I hw
 refine wpAny_isTrue_Compare1 (thn (h pins s σ H _ I hw) fun v s1 h1=>thn h1 fun u s2 h2=>thn h2 fun c s3 ⟨x,H1,I1,r1,q1⟩=>?_) h1
 obtain ⟨d,rfl,q⟩:=q1
 cases r1
 exact wpAny_truthy_bool ⟨H1,I1,q⟩
theorem ac8 {e:Expr} {t:TE} (h:PE X e t) (he:∀ whole,isTrue e X.env whole=(do let v ← whole;standAt e.pos;holding [v] (truthy v)):=by intro _;rfl):PT X e (tB t):=by
 intro pins s σ H Q I hw
 refine isTrue_plain (thn (h pins s σ H _ I hw) fun v s1 ⟨x,H1,I1,r1,q1⟩=>?_) (he _)
 obtain ⟨d,rfl,q⟩:=q1
 cases r1
 exact wpAny_truthy_bool ⟨H1,I1,q⟩
variable {tA tB':TT} {rest:List Expr}
def tAnd (t u:TT):TT:=fun σ H Q=>t σ H fun c H1=>if c=true then u σ H1 Q else Q false H1
def tOr (t u:TT):TT:=fun σ H Q=>t σ H fun c H1=>if c=true then Q true H1 else u σ H1 Q
def tNot (t:TT):TT:=fun σ H Q=>t σ H fun c H1=>Q (!c) H1
theorem ao9 (ha:PT X a tA):PW X (.BoolOp .And [a] pos) tA:=by
 intro wh pins s σ H Q I h
 refine isTrue_and (thn (ha pins s σ H Q I h) fun c s1 e=>?_)
 cases c with
 |true=>exact isTrue_and_nil e
 |false=>exact e
theorem ai1 (ha:PT X a tA):PW X (.BoolOp .Or [a] pos) tA:=by
 intro wh pins s σ H Q I h
 refine isTrue_or (thn (ha pins s σ H Q I h) fun c s1 e=>?_)
 cases c with
 |false=>exact isTrue_or_nil e
 |true=>exact e
theorem ap7 (ha:PT X a tA) (hb:PW X (.BoolOp .And (b::rest) pos) tB'):PW X (.BoolOp .And (a::b::rest) pos) (tAnd tA tB'):=by
 intro wh pins s σ H Q I h
 refine isTrue_and (thn (ha pins s σ H _ I h) fun c s1 ⟨H1,I1,q1⟩=>?_)
 cases c with
 |true=>exact hb wh pins s1 σ H1 Q I1 q1
 |false=>exact ⟨H1,I1,q1⟩
theorem ap3 (ha:PT X a tA) (hb:PW X (.BoolOp .Or (b::rest) pos) tB'):PW X (.BoolOp .Or (a::b::rest) pos) (tOr tA tB'):=by
 intro wh pins s σ H Q I h
 refine isTrue_or (thn (ha pins s σ H _ I h) fun c s1 ⟨H1,I1,q1⟩=>?_)
 cases c with
 |true=>exact ⟨H1,I1,q1⟩
 |false=>exact hb wh pins s1 σ H1 Q I1 q1
theorem af6 (ha:PT X a tA):PT X (.UnaryOp .Not a pos) (tNot tA):=by
 intro pins s σ H Q I h
 exact isTrue_not (ha pins s σ H (fun c H1=>Q (!c) H1) I h)
def tAndV (ta tb:TE):TE:=fun σ H Q=>ta σ H fun x H1=>∃ c,x=.bl c/\if c=true then tb σ H1 Q else Q (.bl false) H1
def tOrV (ta tb:TE):TE:=fun σ H Q=>ta σ H fun x H1=>∃ c,x=.bl c/\if c=true then Q (.bl true) H1 else tb σ H1 Q
def tNotV (ta:TE):TE:=fun σ H Q=>ta σ H fun x H1=>∃ c,x=.bl c/\Q (.bl (!c)) H1
theorem ac7 {op} {t:TE} (h:PE X a t):PE X (.BoolOp op [a] pos) t:=fun pins s σ H Q I hw=>BoolOp_one (h pins s σ H Q I hw)
theorem aa5 (ha:PE X a ta) (hb:PE X (.BoolOp .And (b::rest) pos) tb):PE X (.BoolOp .And (a::b::rest) pos) (tAndV ta tb):=by
 intro pins s σ H Q I h
 refine BoolOp_and (thn (ha pins s σ H _ I h) fun v s1 ⟨x,H1,I1,r1,q1⟩=>?_)
 obtain ⟨c,rfl,q1⟩:=q1
 cases r1
 refine wpAny_truthy_bool ?_
 cases c with
 |true=>exact hb pins s1 σ H1 Q I1 q1
 |false=>exact ⟨.bl false,H1,I1,rfl,q1⟩
theorem pe_or (ha:PE X a ta) (hb:PE X (.BoolOp .Or (b::rest) pos) tb):PE X (.BoolOp .Or (a::b::rest) pos) (tOrV ta tb):=by
 intro pins s σ H Q I h
 refine BoolOp_or (thn (ha pins s σ H _ I h) fun v s1 ⟨x,H1,I1,r1,q1⟩=>?_)
 obtain ⟨c,rfl,q1⟩:=q1
 cases r1
 refine wpAny_truthy_bool ?_
 cases c with
 |false=>exact hb pins s1 σ H1 Q I1 q1
 |true=>exact ⟨.bl true,H1,I1,rfl,q1⟩
theorem pe_not (ha:PE X a ta):PE X (.UnaryOp .Not a pos) (tNotV ta):=by
 intro pins s σ H Q I h
 refine UnaryOp_ (thn (ha pins s σ H _ I h) fun v s1 ⟨x,H1,I1,r1,q1⟩=>?_)
 obtain ⟨c,rfl,q1⟩:=q1
 cases r1
 exact not_of (wpAny_truthy_bool ⟨.bl (!c),H1,I1,rfl,q1⟩)
def tIf (t:TT) (ta tb:TE):TE:=fun σ H Q=>t σ H fun c H1=>if c=true then ta σ H1 Q else tb σ H1 Q
theorem ad9 {c:Expr} (hc:PT X c tA) (ha:PE X a ta) (hb:PE X b tb):PE X (.IfExp c a b pos) (tIf tA ta tb):=by
 intro pins s σ H Q I h
 refine wpAny_IfExp (thn (hc pins s σ H _ I h) fun d s1 ⟨H1,I1,q1⟩=>?_)
 cases d with
 |true=>exact ha pins s1 σ H1 Q I1 q1
 |false=>exact hb pins s1 σ H1 Q I1 q1
end
def SqL (K:PySem.W.Frag) (H:Hp) (a:Addr) (xs:List V):Prop:=
 Rd H a (.lst xs)∨
  ∃ (o:Obj) (its:Array Value) (n:Nat),K.lookup a=some o/\o.cls=.type "list"/\o.dict=none/\o.data=.seq its n/\its.size≤sizeLine/\Vals xs its.toList
def SqT (K:PySem.W.Frag) (H:Hp) (a:Addr) (xs:List V):Prop:=
 Rd H a (.tup xs)∨
  ∃ (o:Obj) (its:Array Value) (n:Nat),K.lookup a=some o/\o.cls=.type "tuple"/\o.data=.seq its n/\its.size≤sizeLine/\Vals xs its.toList
def absV:Value->Option V
 |.none=>some .non
 |.bool b=>some (.bl b)
 |.int i _=>some (.int i)
 |.str x _=>some (.str x)
 |.bytes b _=>some (.byt b)
 |.float b _=>some (.flt b)
 |.ref a=>some (.ref a)
 |.type n=>some (.ty n)
 |_=>none
theorem RelV.abs {x:V} {u:Value} (r:RelV x u):absV u=some x:=by
 cases x with
 |non=>cases r;rfl
 |bl _=>cases r;rfl
 |int _=>obtain ⟨t,rfl⟩:=r;rfl
 |str _=>obtain ⟨t,rfl⟩:=r;rfl
 |byt _=>obtain ⟨t,rfl⟩:=r;rfl
 |flt _=>obtain ⟨t,rfl⟩:=r;rfl
 |ref _=>cases r;rfl
 |ty _=>cases r;rfl
theorem RelV.inj {x y:V} {u:Value} (r:RelV x u) (q:RelV y u):x=y:=Option.some.inj (r.abs.symm.trans q.abs)
theorem Vals.inj:∀ {xs ys:List V} {us:List Value},Vals xs us->Vals ys us->xs=ys
 |_,_,_,.nil,.nil=>rfl
 |_,_,_,.cons r t,.cons r' t'=>by rw [r.inj r',Vals.inj t t']
section
variable {X:Cx} {pins:List (Addr×Obj)} {σ:St} {H:Hp} {s:Shared} {a:Addr} {xs ys:List V}
theorem SqL.of {K:PySem.W.Frag} (h:H a=some (.lst xs)):SqL K H a xs:=.inl (.inl h)
theorem SqT.of {K:PySem.W.Frag} (h:H a=some (.tup xs)):SqT K H a xs:=.inl (.inl h)
theorem Inv.list (I:Inv X pins σ H s) (h:SqL X.K H a xs):∃ its:List Value,Vals xs its/\PlainL s.heap a its.toArray/\xs.length≤sizeLine:=by
 rcases h with h|⟨o,its,n,hk,hc,hd,hs,hz,r⟩
 ·obtain ⟨z,its,n,r,e⟩:=h.ok I.hok
  exact ⟨its,r,⟨_,n,e,rfl,rfl,rfl⟩,z⟩
 ·refine ⟨its.toList,r,⟨o,n,I.kIn a o hk,hc,hd,by simpa using hs⟩,?_⟩
  have e:=r.length
  simp only [Array.length_toList] at e
  omega
theorem Inv.tuple (I:Inv X pins σ H s) (h:SqT X.K H a xs):∃ its:List Value,Vals xs its/\IsTup s.heap a its.toArray/\xs.length≤sizeLine:=by
 rcases h with h|⟨o,its,n,hk,hc,hs,hz,r⟩
 ·obtain ⟨z,its,r,p⟩:=h.ok I.hok
  exact ⟨its,r,p,z⟩
 ·refine ⟨its.toList,r,⟨o,I.kIn a o hk,hc,n,by simpa using hs⟩,?_⟩
  have e:=r.length
  simp only [Array.length_toList] at e
  omega
theorem Inv.list_inj (I:Inv X pins σ H s) (h:SqL X.K H a xs) (h':SqL X.K H a ys):xs=ys:=by
 obtain ⟨its,r,⟨o,n,e,_,_,d⟩,_⟩:=I.list h
 obtain ⟨its',r',⟨o',n',e',_,_,d'⟩,_⟩:=I.list h'
 rw [e] at e';cases e'
 rw [d] at d'
 injection d' with d1 _
 have:its=its':=by simpa using congrArg Array.toList d1
 subst this
 exact r.inj r'
theorem Inv.tuple_inj (I:Inv X pins σ H s) (h:SqT X.K H a xs) (h':SqT X.K H a ys):xs=ys:=by
 obtain ⟨its,r,⟨o,e,_,n,d⟩,_⟩:=I.tuple h
 obtain ⟨its',r',⟨o',e',_,n',d'⟩,_⟩:=I.tuple h'
 rw [e] at e';cases e'
 rw [d] at d'
 injection d' with d1 _
 have:its=its':=by simpa using congrArg Array.toList d1
 subst this
 exact r.inj r'
end
abbrev Cx.wish (X:Cx) (E:Value->Shared->Prop):Cx:={ X with xe:=E }
abbrev Cx.nox (X:Cx):Cx:=X.wish fun _ _=>False
theorem Cx.Ok.wish {X:Cx} (ok:X.Ok) (E:Value->Shared->Prop):(X.wish E).Ok:=
 ⟨ok.mod,ok.kind,ok.glob,ok.blt,ok.above,ok.inj,ok.has,ok.cab,ok.hd,ok.frames,ok.stk,ok.exf,ok.bs,ok.bsz,ok.noex,ok.exfs,ok.funs,ok.frf⟩
theorem Cx.Ok.unwish {X:Cx} {E:Value->Shared->Prop} (ok:(X.wish E).Ok):X.Ok:=
 ⟨ok.mod,ok.kind,ok.glob,ok.blt,ok.above,ok.inj,ok.has,ok.cab,ok.hd,ok.frames,ok.stk,ok.exf,ok.bs,ok.bsz,ok.noex,ok.exfs,ok.funs,ok.frf⟩
section
variable {X:Cx} {pins:List (Addr×Obj)} {σ:St} {H:Hp} {s:Shared} {E:Value->Shared->Prop}
theorem Inv.wish (I:Inv X pins σ H s) (E:Value->Shared->Prop):Inv (X.wish E) pins σ H s:=⟨I.ok.wish E,I.os,I.bare,I.base,I.loc,I.cell,I.free,I.freeC,I.pin,I.hok,I.len⟩
theorem Inv.unwish (I:Inv (X.wish E) pins σ H s):Inv X pins σ H s:=⟨I.ok.unwish,I.os,I.bare,I.base,I.loc,I.cell,I.free,I.freeC,I.pin,I.hok,I.len⟩
theorem SP.unwish {D:Ends} {f:Flow} {s':Shared} (h:SP (X.wish E) pins D f s'):SP X pins D f s':=by
 cases f with
 |next=>obtain ⟨σ',H',I,q⟩:=h;exact ⟨σ',H',I.unwish,q⟩
 |brk=>obtain ⟨σ',H',I,q⟩:=h;exact ⟨σ',H',I.unwish,q⟩
 |cont=>obtain ⟨σ',H',I,q⟩:=h;exact ⟨σ',H',I.unwish,q⟩
 |ret u=>obtain ⟨v,σ',H',I,r,q⟩:=h;exact ⟨v,σ',H',I.unwish,r,q⟩
theorem PSs.nox {st:List Stmt} {t:TS} (h:PSs X.nox st t):PSs X st t:=fun pins s σ H D I hw=>
 wpAny_mono (h pins s σ H D (I.wish _) hw) (fun _ _ q=>q.unwish) fun _ _ z=>False.elim z
end
section
variable {X:Cx} {st:Stmt} {rest:List Stmt} {t u:TS} {e:Expr} {te:TE} {pos:Pos}
def tNext:TS:=fun D σ H=>D.nx σ H
def tSeq (t u:TS):TS:=fun D σ H=>t { D with nx:=u D } σ H
theorem a73:PSs X [] tNext:=fun _ _ σ H _ I h=>wpAny_execs_nil ⟨σ,H,I,h⟩
theorem a05 (h1:PS X st t) (h2:PSs X rest u):PSs X (st::rest) (tSeq t u):=by
 intro pins s σ H D I h
 refine wpAny_execs_cons (thn (h1 pins s σ H { D with nx:=u D } I h) fun f s1 q=>?_)
 cases f with
 | next=>
   obtain ⟨σ',H',I',q⟩:=q
   exact h2 pins s1 σ' H' D I' q
 |ret v=>exact q
 |brk=>exact q
 |cont=>exact q
theorem a06 (h1:PS X st t):PSs X [st] t:=by
 intro pins s σ H D I h
 refine wpAny_execs_cons (thn (h1 pins s σ H D I h) fun f s1 q=>?_)
 cases f with
 |next=>exact wpAny_execs_nil q
 |ret v=>exact q
 |brk=>exact q
 |cont=>exact q
theorem Inv.quiet {pins:List (Addr×Obj)} {σ:St} {H:Hp} {s:Shared} (I:Inv X pins σ H s):interactive X.env=false:=by simp [interactive,I.ok.kind]
def tDrop (te:TE):TS:=fun D σ H=>te σ H fun _ H1=>D.nx σ H1
theorem ab3 (he:PE X e te) (hs:swapsWith e none pos.line X.env=pure false:=by rfl):PS X (.Expr e pos) (tDrop te):=by
 intro pins s σ H D I h
 exact wpAny_Expr_any (thn (he pins s σ H _ I h) fun v s1 ⟨x,H1,I1,r1,q1⟩=>⟨σ,H1,I1,q1⟩) I.quiet hs
def tRet (te:TE):TS:=fun D σ H=>te σ H D.rt
theorem a69 (he:PE X e te):PS X (.Return (some e) pos) (tRet te):=by
 intro pins s σ H D I h
 exact wpAny_Return_some (thn (he pins s σ H _ I h) fun v s1 ⟨x,H1,I1,r1,q1⟩=>⟨x,σ,H1,I1,r1,q1⟩)
def tIfS (c:TT) (t u:TS):TS:=fun D σ H=>c σ H fun b H1=>if b=true then t D σ H1 else u D σ H1
theorem a84 {c:Expr} {a b:List Stmt} {tc:TT} (hc:PT X c tc) (ha:PSs X a t) (hb:PSs X b u):PS X (.If c a b pos) (tIfS tc t u):=by
 intro pins s σ H D I h
 refine wpAny_If (thn (hc pins s σ H _ I h) fun d s1 ⟨H1,I1,q1⟩=>?_)
 cases d with
 |true=>exact ha pins s1 σ H1 D I1 q1
 |false=>exact hb pins s1 σ H1 D I1 q1
def tNever:TS:=fun _ _ _=>False
theorem aj2:PS X st tNever:=fun _ _ _ _ _ _ h=>h.elim
end
abbrev TG:=V->St->Hp->(St->Hp->Prop)->Prop
abbrev TGs:=List V->St->Hp->(St->Hp->Prop)->Prop
def PG (X:Cx) (target:Expr) (t:TG):Prop:=
 ∀ (pins:List (Addr×Obj)) (s:Shared) (σ:St) (H:Hp) (v:V) (u:Value) (Q:St->Hp->Prop),Inv X pins σ H s->RelV v u->t v σ H Q->
   wpAny (model X.prog X.w) X.A (assign target X.env u) (fun _ s'=>∃ σ' H',Inv X pins σ' H' s'/\Q σ' H') X.xe s
def PGs (X:Cx) (ts:List Expr) (t:TGs):Prop:=
 ∀ (pins:List (Addr×Obj)) (s:Shared) (σ:St) (H:Hp) (vs:List V) (us:List Value) (Q:St->Hp->Prop),Inv X pins σ H s->Vals vs us->t vs σ H Q->
   wpAny (model X.prog X.w) X.A (assignInOrder ((assignEach ts X.env).map (·.2)) us) (fun _ s'=>∃ σ' H',Inv X pins σ' H' s'/\Q σ' H') X.xe s
abbrev TSet:=V->V->V->Hp->(Hp->Prop)->Prop
def PSet (X:Cx) (t:TSet):Prop:=
 ∀ (pins:List (Addr×Obj)) (s:Shared) (σ:St) (H:Hp) (o i v:V) (ov iv u:Value) (Q:Hp->Prop),Inv X pins σ H s->RelV o ov->RelV i iv->RelV v u->t o i v H Q->
   wpAny (model X.prog X.w) X.A (setItem ov iv u) (fun _ s'=>∃ H',Inv X pins σ H' s'/\Q H') X.xe s
section
variable {X:Cx} {pos:Pos}
def af9 (i:Nat):TG:=fun v σ H Q=>Q (σ.set i (some v)) H
theorem a82 {i:Nat} {x:Str} (hN:X.N.Nodup) (hi:X.N[i]?=some x) (hx:Loc X.env.scope x) (hf:X.fn x=true∨X.env.scope.names.lookup x=some .local:=by first|exact .inl rfl|exact .inr rfl|assumption):PG X (.Name x pos) (af9 i):=by
 intro pins s σ H v u Q I r h
 exact wpAny_assign_Name (aj4 I hN hi hx r (fun s' I'=>⟨_,H,I',h⟩) hf)
def gNil:TGs:=fun vs σ H Q=>vs=[]/\Q σ H
def gCons (t:TG) (u:TGs):TGs:=fun vs σ H Q=>∃ v r,vs=v::r/\t v σ H fun σ' H'=>u r σ' H' Q
theorem ag7:PGs X [] gNil:=by
 intro pins s σ H vs us Q I r h
 obtain ⟨e,h⟩:=h
 subst e
 cases r
 exact assignInOrder_nil ⟨σ,H,I,h⟩
theorem a91 {e:Expr} {es:List Expr} {t:TG} {u:TGs} (h1:PG X e t) (h2:PGs X es u)
 (hs:(assignEach (e::es) X.env).map (·.2)=assign e X.env::(assignEach es X.env).map (·.2):=by rfl):PGs X (e::es) (gCons t u):=by
 intro pins s σ H vs us Q I r h
 obtain ⟨v,vr,e1,h⟩:=h
 subst e1
 cases r with
 | cons r rr=>
   rw [hs]
   refine assignInOrder_cons (thn (h1 pins s σ H _ _ _ I r h) fun _ s1 ⟨σ1,H1,I1,q1⟩=>?_)
   exact h2 pins s1 σ1 H1 _ _ Q I1 rr q1
def gTup (K:PySem.W.Frag) (n:Nat) (t:TGs):TG:=fun v σ H Q=>∃ a xs,v=.ref a/\SqT K H a xs/\xs.length=n/\t xs σ H Q
theorem al4 {es:List Expr} {k:Nat} {t:TGs} {n:Nat} (hc:X.calm=true) (h:PGs X es t)
 (hn:(assignEach es X.env).length=n:=by rfl) (hst:(assignEach es X.env).findIdx? (·.1)=none:=by rfl):PG X (.Tuple es k pos) (gTup X.K n t):=by
 intro pins s σ H v u Q I r hw
 obtain ⟨a,xs,e1,hq,hl,hw⟩:=hw
 subst e1
 cases r
 obtain ⟨its,rv,ht,hz⟩:=I.tuple hq
 refine assign_Tuple_tuple (I.ok.hd hc) ht (by simp [hn,← hl,rv.length]) hst fun h' hx=>?_
 have I1:Inv X pins σ H { s with heap:=h' }:=I.kept (t':=s.toks) fun b o e=>hx b o (Nat.ne_of_lt (Heap.lt_size e)) e
 exact h pins _ σ H xs _ Q I1 (by simpa using rv) hw
def gSub (to ti:TE) (t:TSet):TG:=fun v σ H Q=>to σ H fun o H1=>ti σ H1 fun i H2=>t o i v H2 fun H3=>Q σ H3
theorem pg_sub {o i:Expr} {to ti:TE} {t:TSet} (ho:PE X o to) (hi:PE X i ti) (hs:PSet X t)
 (ha:∀ v,assign (.Subscript o i pos) X.env v=(do
  let ov ← holding [v] (eval o X.env)
  let iv ← holding [v,ov] (eval i X.env)
  standAt pos
  holding [v,ov,iv] (setItem ov iv v)
  release [v,ov,iv] []):=by intro _;rfl):PG X (.Subscript o i pos) (gSub to ti t):=by
 intro pins s σ H v u Q I r h
 rw [ha]
 refine wpAny_bind (wpAny_holding (thn (ho pins s σ H _ I h) fun ov s1 ⟨x,H1,I1,r1,q1⟩=>?_))
 refine wpAny_bind (wpAny_holding (thn (hi pins s1 σ H1 _ I1 q1) fun iv s2 ⟨y,H2,I2,r2,q2⟩=>?_))
 refine wpAny_bind (wpAny_standAt (wpAny_bind (wpAny_holding (thn (hs pins s2 σ H2 x y v ov iv u _ I2 r1 r2 r q2) fun _ s3 ⟨H3,I3,q3⟩=>?_))))
 exact wpAny_release ⟨σ,H3,I3,q3⟩
def tAsg (te:TE) (g:TG):TS:=fun D σ H=>te σ H fun x H1=>g x σ H1 D.nx
theorem ps_asg {tg e:Expr} {te:TE} {g:TG} (he:PE X e te) (hg:PG X tg g) (hs:swapsWithSole [tg] e pos.line X.env=pure false:=by rfl) (hw:swappedStores [tg] e X.env=pure none:=by rfl)
 (h1:(assignEach [tg] X.env).map (·.2)=[assign tg X.env]:=by rfl):PS X (.Assign [tg] e pos) (tAsg te g):=by
 intro pins s σ H D I h
 refine wpAny_Assign_stores (thn (he pins s σ H _ I h) fun v s1 ⟨x,H1,I1,r1,q1⟩=>?_) hs hw
 rw [h1]
 exact thn (hg pins s1 σ H1 x v _ I1 r1 q1) fun _ s2 q=>q
theorem a79 {i:Nat} {x:Str} {e:Expr} {te:TE} {pos':Pos} (hN:X.N.Nodup) (hi:X.N[i]?=some x) (hx:Loc X.env.scope x) (he:PE X e te) (hs:swapsWith e (some (.Name x pos')) pos.line X.env=pure false:=by rfl) (hf:X.fn x=true∨X.env.scope.names.lookup x=some .local:=by first|exact .inl rfl|exact .inr rfl|assumption) :
 PS X (.Assign [.Name x pos'] e pos) (tAsg te (af9 i)):=by
 intro pins s σ H D I h
 refine wpAny_Assign_Name (thn (he pins s σ H _ I h) fun v s1 ⟨y,H1,I1,r1,q1⟩=>?_) hs
 exact aj4 I1 hN hi hx r1 (fun s2 I2=>⟨_,H1,I2,q1⟩) hf
end
section
variable {X:Cx} {pos:Pos}
end
structure It where
 go:Nat->Hp->Prop
 yld:Nat->Hp->V->Hp->Prop
 stop:Nat->Hp->Prop
def FpOk (X:Cx) (pins:List (Addr×Obj)) (H:Hp) (b:Addr):Prop:=
 H b=none/\b≠X.env.locals/\b∉X.fs/\(b∈X.ex∨X.s₀.heap.objs.size≤b)/\(∀ x c,X.env.cells.lookup x=some c->c≠b)/\∀ p∈X.pn++pins,p.1≠b
theorem Inv.fpOk {X:Cx} {pins:List (Addr×Obj)} {σ:St} {H H':Hp} {s:Shared} {b:Addr} (I:Inv X pins σ H s) (hb:s.heap.objs.size≤b) (hn:H' b=none):FpOk X pins H' b:=by
 refine ⟨hn,Nat.ne_of_gt (Nat.lt_of_lt_of_le I.lt hb),I.nofs hb,.inr (Nat.le_trans I.sz hb),fun x c e z=>?_,fun p hp z=>?_⟩
 ·obtain ⟨v,q⟩:=I.cell x c e
  exact absurd (Nat.lt_of_lt_of_le q.lt (by rw [z];exact hb)) (Nat.lt_irrefl _)
 ·exact absurd (Nat.lt_of_lt_of_le (Heap.lt_size (I.pin p hp).1) (by rw [z];exact hb)) (Nat.lt_irrefl _)
structure Turn (P:Program) (w:World) (K:PySem.W.Frag) (tg:Expr) (J:It) (fp:List Addr) (it:Addr) (tn:Nat->Heap->Prop):Prop where
 mem:it∈fp
 obj:∀ i h,tn i h->∀ b∈fp,∃ o,h.get? b=some o/\∀ v,o.data≠.cell v
 keep:∀ i h h',tn i h->(∀ b∈fp,∀ o,h.get? b=some o->h'.get? b=some o)->tn i h'
 item:∀ (X:Cx),X.prog=P->X.w=w->X.K=K->X.calm=true->∀ (i:Nat) (pins:List (Addr×Obj)) (s:Shared) (σ:St) (H:Hp) (E:Value->Shared->Prop),Inv X pins σ H s->(∀ b∈fp,FpOk X pins H b)->tn i s.heap->J.go i H->
  wpAny (model P w) X.A (pyNext (.ref it)) (fun r s1=>∃ u,r=some u/\
   wpAny (model P w) X.A (letOwnedTupleGo tg (.ref it) u) (fun _ s2=>∃ x H',Inv X pins σ H' s2/\RelV x u/\J.yld i H x H'/\tn (i+1) s2.heap/\∀ b∈fp,H' b=none) E s1) E s
 done:∀ (X:Cx),X.prog=P->X.w=w->X.K=K->X.calm=true->∀ (i:Nat) (pins:List (Addr×Obj)) (s:Shared) (σ:St) (H:Hp) (E:Value->Shared->Prop),Inv X pins σ H s->(∀ b∈fp,FpOk X pins H b)->tn i s.heap->J.stop i H->
  wpAny (model P w) X.A (pyNext (.ref it)) (fun r s1=>r=none/\Inv X pins σ H s1) E s
 self:∀ (A:Around) (i:Nat) (s:Shared) (Q:Value->Shared->Prop) (E:Value->Shared->Prop),tn i s.heap->Q (.ref it) s->wpAny (model P w) A (pyIter (.ref it)) Q E s
abbrev TI:=St->Hp->(It->Hp->Prop)->Prop
def PIE (X:Cx) (pins:List (Addr×Obj)) (σ:St) (tg:Expr) (R:It->Hp->Prop) (itv:Value) (s2:Shared):Prop:=
 ∃ (it:Addr) (fp:List Addr) (tn:Nat->Heap->Prop) (J:It) (H':Hp),itv=.ref it/\Inv X pins σ H' s2/\Turn X.prog X.w X.K tg J fp it tn/\tn 0 s2.heap/\(∀ b∈fp,FpOk X pins H' b)/\R J H'
def PI (X:Cx) (tg iter:Expr) (wi:TI):Prop:=
 ∀ (pins:List (Addr×Obj)) (s:Shared) (σ:St) (H:Hp) (R:It->Hp->Prop),Inv X pins σ H s->wi σ H R->
   wpAny (model X.prog X.w) X.A (eval iter X.env) (fun v s1=>wpAny (model X.prog X.w) X.A (pyIter v) (PIE X pins σ tg R) X.xe s1) X.xe s
theorem go_of {M:Model} {A:Around} {E:Value->Shared->Prop} {s:Shared} {tg:Expr} {it:Addr} {u:Value} {o:Obj} {n:String} {vs:Array Value} {Q:Unit->Shared->Prop} (ho:s.heap.get? it=some o) (hc:o.cls=.type n) (hd:o.data=.fields vs)
 (hn:["enumerate","zip","dict_itemiterator","dict_reverseitemiterator","odict_iterator","itertools.zip_longest","itertools.pairwise"].contains n=false) (hQ:Q () s):wpAny M A (letOwnedTupleGo tg (.ref it) u) Q E s:=by
 unfold letOwnedTupleGo
 cases tg <;> first
  |exact wpAny_pure hQ
  |(cases u <;> first
   |exact wpAny_pure hQ
   | (refine wpAny_bind (wpAny_load ho ?_)
      rw [hc,hd]
      show wpAny M A (if (["enumerate","zip","dict_itemiterator","dict_reverseitemiterator","odict_iterator","itertools.zip_longest","itertools.pairwise"].contains n && vs[0]? == some (rawInt _))=true then _ else _) Q E s
      rw [if_neg (by intro h;rw [hn,Bool.false_and] at h;cases h)]
      exact wpAny_pure hQ))
def Itl (K:PySem.W.Frag) (a:Addr):It:=
 ⟨fun i H=>∃ xs x,SqL K H a xs/\xs[i]?=some x,fun i H x H'=>H'=H/\∀ xs,SqL K H a xs->xs[i]?=some x,fun i H=>∃ xs,SqL K H a xs/\xs.length≤i⟩
def Itt (K:PySem.W.Frag) (a:Addr):It:=
 ⟨fun i H=>∃ xs x,SqT K H a xs/\xs[i]?=some x,fun i H x H'=>H'=H/\∀ xs,SqT K H a xs->xs[i]?=some x,fun i H=>∃ xs,SqT K H a xs/\xs.length≤i⟩
def Itr (lo:Int) (n:Nat):It:=⟨fun i _=>i<n,fun i H x H'=>H'=H/\x=.int (lo+i),fun i _=>n≤i⟩
theorem turn_list {P:Program} {w:World} {K:PySem.W.Frag} {tg:Expr} (a it:Addr):Turn P w K tg (Itl K a) [it] it (fun i h=>h.IsListIter it a i) where
 mem:=by simp
 obj:=fun i h st b hb=>by
  have e:b=it:=by simpa using hb
  subst e
  obtain ⟨o,e,c,d⟩:=st
  exact ⟨o,e,fun v z=>by rw [d] at z;cases z⟩
 keep:=fun i h h' st k=>st.at fun o e=>k it (by simp) o e
 item:=by
  intro X hP hw hK hc i pins s σ H E I hf st hg
  subst hP hw hK
  obtain ⟨xs,x,hq,hx⟩:=hg
  obtain ⟨its,rv,p,hz⟩:=I.list hq
  obtain ⟨u,hu,ru⟩:=rv.get hx
  obtain ⟨f0,f1,f2,f3,f4,f5⟩:=hf it (by simp)
  refine wpAny_pyNext_list_item st p.isList (x:=u) (by simpa using hu) fun h' st' sb=>?_
  have I1:Inv X pins σ H { s with heap:=h' }:=I.turned (t':=s.toks) (fun b o hb e=>(sb.2 b hb).trans e) f0 f1 f3 f4 f5
  obtain ⟨o,e,c,d⟩:=id st'
  exact ⟨u,rfl,go_of (s:={ s with heap:=h' }) e c d (by decide) ⟨x,H,I1,ru,⟨rfl,fun ys hy=>by rw [I.list_inj hy hq];exact hx⟩,st',fun b hb=>(hf b hb).1⟩⟩
 done:=by
  intro X hP hw hK hc i pins s σ H E I hf st hg
  subst hP hw hK
  obtain ⟨xs,hq,hx⟩:=hg
  obtain ⟨its,rv,p,hz⟩:=I.list hq
  obtain ⟨f0,f1,f2,f3,f4,f5⟩:=hf it (by simp)
  have hl:=rv.length
  exact wpAny_pyNext_list_end (I.ok.hd hc) st p.isList (by simp;omega) fun h' eb=>⟨rfl,I.turned (t':=s.toks) (fun b o hb e=>eb b o hb e) f0 f1 f3 f4 f5⟩
 self:=fun _ _ _ _ _ st h=>wpAny_pyIter_listiter st h
theorem turn_tuple {P:Program} {w:World} {K:PySem.W.Frag} {tg:Expr} (a it:Addr):Turn P w K tg (Itt K a) [it] it (fun i h=>h.IsTupleIter it a i) where
 mem:=by simp
 obj:=fun i h st b hb=>by
  have e:b=it:=by simpa using hb
  subst e
  obtain ⟨o,e,c,d⟩:=st
  exact ⟨o,e,fun v z=>by rw [d] at z;cases z⟩
 keep:=fun i h h' st k=>st.at fun o e=>k it (by simp) o e
 item:=by
  intro X hP hw hK hc i pins s σ H E I hf st hg
  subst hP hw hK
  obtain ⟨xs,x,hq,hx⟩:=hg
  obtain ⟨its,rv,p,hz⟩:=I.tuple hq
  obtain ⟨u,hu,ru⟩:=rv.get hx
  obtain ⟨f0,f1,f2,f3,f4,f5⟩:=hf it (by simp)
  refine wpAny_pyNext_tuple_item st (show s.heap.IsTuple a its.toArray from p) (x:=u) (by simpa using hu) fun h' st' sb=>?_
  have I1:Inv X pins σ H { s with heap:=h' }:=I.turned (t':=s.toks) (fun b o hb e=>(sb.2 b hb).trans e) f0 f1 f3 f4 f5
  obtain ⟨o,e,c,d⟩:=id st'
  exact ⟨u,rfl,go_of (s:={ s with heap:=h' }) e c d (by decide) ⟨x,H,I1,ru,⟨rfl,fun ys hy=>by rw [I.tuple_inj hy hq];exact hx⟩,st',fun b hb=>(hf b hb).1⟩⟩
 done:=by
  intro X hP hw hK hc i pins s σ H E I hf st hg
  subst hP hw hK
  obtain ⟨xs,hq,hx⟩:=hg
  obtain ⟨its,rv,p,hz⟩:=I.tuple hq
  obtain ⟨f0,f1,f2,f3,f4,f5⟩:=hf it (by simp)
  have hl:=rv.length
  exact wpAny_pyNext_tuple_end (I.ok.hd hc) st (show s.heap.IsTuple a its.toArray from p) (by simp;omega) fun h' eb=>⟨rfl,I.turned (t':=s.toks) (fun b o hb e=>eb b o hb e) f0 f1 f3 f4 f5⟩
 self:=fun _ _ _ _ _ st h=>wpAny_pyIter_tupleiter st h
theorem turn_range {P:Program} {w:World} {K:PySem.W.Frag} {tg:Expr} (it:Addr) (lo:Int) (n:Nat):Turn P w K tg (Itr lo n) [it] it (fun i h=>IsRangeIter h it (lo+(i:Nat)*1) ((n:Int)-(i:Nat)) 1) where
 mem:=by simp
 obj:=fun i h st b hb=>by
  have e:b=it:=by simpa using hb
  subst e
  exact ⟨_,st,fun v z=>by
   have z':Data.fields _=Data.cell v:=z
   cases z'⟩
 keep:=fun i h h' st k=>k it (by simp) _ st
 item:=by
  intro X hP hw hK hc i pins s σ H E I hf st hg
  subst hP hw hK
  obtain ⟨f0,f1,f2,f3,f4,f5⟩:=hf it (by simp)
  have W:=Walks.range (prog:=X.prog) (w:=X.w) (I.ok.hd hc) it lo 1 n
  refine W.item i s _ _ hg st fun v h' tk hv st' kk=>?_
  obtain ⟨t,rfl⟩:=hv
  have I1:Inv X pins σ H { s with heap:=h',toks:=tk }:=I.turned (fun b o hb e=>kk b o (by simpa using hb) e) f0 f1 f3 f4 f5
  refine ⟨_,rfl,go_of (s:={ s with heap:=h',toks:=tk }) (n:="range_iterator") st' rfl rfl (by decide) ⟨.int (lo+i),H,I1,⟨t,?_⟩,⟨rfl,rfl⟩,st',fun b hb=>(hf b hb).1⟩⟩
  rw [Int.mul_one]
 done:=by
  intro X hP hw hK hc i pins s σ H E I hf st hg
  subst hP hw hK
  obtain ⟨f0,f1,f2,f3,f4,f5⟩:=hf it (by simp)
  exact wpAny_pyNext_range_end (I.ok.hd hc) st (by have:n≤i:=hg;omega) fun h' eb=>⟨rfl,I.turned (t':=s.toks) (fun b o hb e=>eb b o hb e) f0 f1 f3 f4 f5⟩
 self:=fun _ _ _ _ _ st h=>wpAny_pyIter_rangeiter st h
section
variable {X:Cx} {tg:Expr}
def iList (K:PySem.W.Frag) (tl:TE):TI:=fun σ H R=>tl σ H fun x H1=>∃ a,x=.ref a/\(∃ xs,SqL K H1 a xs)/\R (Itl K a) H1
def iTup (K:PySem.W.Frag) (tl:TE):TI:=fun σ H R=>tl σ H fun x H1=>∃ a,x=.ref a/\(∃ xs,SqT K H1 a xs)/\R (Itt K a) H1
theorem at9 {l:Expr} {tl:TE} (hl:PE X l tl):PI X tg l (iList X.K tl):=by
 intro pins s σ H R I h
 refine thn (hl pins s σ H _ I h) fun v s1 ⟨x,H1,I1,r1,q1⟩=>?_
 obtain ⟨a,e,⟨xs,hq⟩,q⟩:=q1
 subst e
 cases r1
 obtain ⟨its,rv,p,hz⟩:=I1.list hq
 refine wpAny_pyIter_list p.isList ?_
 refine ⟨s1.heap.objs.size,[s1.heap.objs.size],_,_,H1,rfl,I1.kept (t':=s1.toks) fun b o e=>Heap.get?_push_of_some _ e,turn_list a _,⟨_,Heap.get?_push_size _ rfl,rfl,rfl⟩,fun b hb=>?_,q⟩
 have e:b=s1.heap.objs.size:=by simpa using hb
 subst e
 exact I1.fpOk (Nat.le_refl _) (I1.hok.fresh (Nat.le_refl _))
theorem al2 {l:Expr} {tl:TE} (hl:PE X l tl):PI X tg l (iTup X.K tl):=by
 intro pins s σ H R I h
 refine thn (hl pins s σ H _ I h) fun v s1 ⟨x,H1,I1,r1,q1⟩=>?_
 obtain ⟨a,e,⟨xs,hq⟩,q⟩:=q1
 subst e
 cases r1
 obtain ⟨its,rv,p,hz⟩:=I1.tuple hq
 refine wpAny_pyIter_tuple (show s1.heap.IsTuple a its.toArray from p) ?_
 refine ⟨s1.heap.objs.size,[s1.heap.objs.size],_,_,H1,rfl,I1.kept (t':=s1.toks) fun b o e=>Heap.get?_push_of_some _ e,turn_tuple a _,⟨_,Heap.get?_push_size _ rfl,rfl,rfl⟩,fun b hb=>?_,q⟩
 have e:b=s1.heap.objs.size:=by simpa using hb
 subst e
 exact I1.fpOk (Nat.le_refl _) (I1.hok.fresh (Nat.le_refl _))
theorem range_it {pins:List (Addr×Obj)} {σ:St} {H:Hp} {s:Shared} {R:It->Hp->Prop} {E:Value->Shared->Prop} {lo hi:Int} {t u v:Tok} {tk:Nat} (I:Inv X pins σ H s) (h1:-(2 ^ 62)≤lo) (h2:lo<2 ^ 62) (h3:-(2 ^ 62)≤hi) (h4:hi<2 ^ 62)
 (q:R (Itr lo (hi-lo).toNat) H):wpAny (model X.prog X.w) X.A (pyIter (.ref s.heap.objs.size)) (PIE X pins σ tg R) E { s with heap:=s.heap.push { cls:=.type "range",data:=.fields #[.int lo t,.int hi u,.int 1 v] },toks:=tk }:=by
 refine wpAny_pyIter_range (IsRange.new ..) (small_one h1 h2 h3 h4) ?_
 have I1:Inv X pins σ H { s with heap:=s.heap.push { cls:=.type "range",data:=.fields #[.int lo t,.int hi u,.int 1 v] },toks:=tk }:=I.kept fun b o e=>Heap.get?_push_of_some _ e
 refine ⟨(s.heap.push { cls:=.type "range",data:=.fields #[.int lo t,.int hi u,.int 1 v] }).objs.size,[(s.heap.push { cls:=.type "range",data:=.fields #[.int lo t,.int hi u,.int 1 v] }).objs.size],_,_,H,rfl,
  I1.kept (t':=tk) fun b o e=>Heap.get?_push_of_some _ e,turn_range _ lo (hi-lo).toNat,?_,fun b hb=>?_,q⟩
 ·have e1:lo+((0:Nat):Int)*1=lo:=by simp
  have e2:(((hi-lo).toNat:Nat):Int)-((0:Nat):Int)=Builtin.Range.rangeSize lo hi 1:=by rw [rangeSize_one];split <;> omega
  show IsRangeIter _ _ (lo+((0:Nat):Int)*1) ((((hi-lo).toNat:Nat):Int)-((0:Nat):Int)) 1
  rw [e1,e2]
  exact Heap.get?_push_size _ rfl
 ·have e:b=(s.heap.push { cls:=.type "range",data:=.fields #[.int lo t,.int hi u,.int 1 v] }).objs.size:=by simpa using hb
  subst e
  exact I1.fpOk (Nat.le_refl _) (I1.hok.fresh (Nat.le_refl _))
def iRng1 (ta:TA):TI:=fun σ H R=>ta σ H fun vs H1=>∃ j:Int,vs=[.int j]/\-(2 ^ 62)≤j/\j<2 ^ 62/\R (Itr 0 j.toNat) H1
theorem ab9 {a:Expr} {ta:TA} {p pos:Pos} (hg:Gl X "range") (hm:X.mg "range" = none) (ha:PA X [a] ta) (hs:starEach [a] X.env=[(false,eval a X.env)]:=by rfl):PI X tg (.Call (.Name "range" p) [a] [] pos) (iRng1 ta):=by
 intro pins s σ H R I h
 refine Call_ (ak4 I hg hm boot_range (PyProof.Rows.callWith_type1 (thn (ha pos pins s σ H _ I h) fun us s1 ⟨vs,H1,I1,r1,q1⟩=>?_) hs rfl))
 obtain ⟨j,e,q1,q2,q⟩:=q1
 subst e
 cases r1 with
 | cons r rr=>
   cases rr
   obtain ⟨t,rfl⟩:=r
   exact call_range_1 (range_it I1 (by omega) (by omega) q1 q2 (by simpa using q))
def tFor (wi:TI) (g:TG) (tb:TS):TS:=fun D σ H=>wi σ H fun J H1=>∃ W:Nat->Nat->St->Hp->Prop,(∃ m,W 0 m σ H1)/\∀ i m σ H,W i m σ H->
 (J.stop i H/\D.nx σ H)∨(J.go i H/\∃ N:St->Hp->Prop,(∀ σ' H',N σ' H'->∃ m',m'<m/\W (i+1) m' σ' H')/\∀ x H',J.yld i H x H'->g x σ H' fun σ2 H2=>tb { D with nx:=N,ct:=N,bk:=D.nx } σ2 H2)
def pinsAt (fp:List Addr) (h:Heap):List (Addr×Obj):=fp.filterMap fun b=>(h.get? b).map fun o=>(b,o)
theorem ah2 {fp:List Addr} {h:Heap} {b:Addr} {o:Obj} (hb:b∈fp) (e:h.get? b=some o):(b,o)∈pinsAt fp h:=List.mem_filterMap.mpr ⟨b,hb,by rw [e];rfl⟩
theorem of_pinsAt {fp:List Addr} {h:Heap} {p:Addr×Obj} (hp:p∈pinsAt fp h):p.1∈fp/\h.get? p.1=some p.2:=by
 obtain ⟨b,hb,e⟩:=List.mem_filterMap.mp hp
 cases q:h.get? b with
 |none=>rw [q] at e;cases e
 | some o=>
   rw [q] at e
   have e':(b,o)=p:=Option.some.inj e
   subst e'
   exact ⟨hb,q⟩
theorem Inv.pinned {pins:List (Addr×Obj)} {σ:St} {H:Hp} {s:Shared} {fp:List Addr} (I:Inv X pins σ H s) (hf:∀ b∈fp,FpOk X pins H b) (ho:∀ b∈fp,∃ o,s.heap.get? b=some o/\∀ v,o.data≠.cell v):Inv X (pins++pinsAt fp s.heap) σ H s:=
 I.pins_of fun p hp=>(List.mem_append.mp hp).elim (fun z=>I.pin p (List.mem_append_right _ z)) fun z=>by
  obtain ⟨hb,e⟩:=of_pinsAt z
  obtain ⟨f0,f1,f2,_⟩:=hf p.1 hb
  obtain ⟨o,e',d⟩:=ho p.1 hb
  rw [e] at e';cases e'
  exact ⟨e,f0,f1,f2,d⟩
theorem Inv.unpinned {pins pl:List (Addr×Obj)} {σ:St} {H:Hp} {s:Shared} (I:Inv X (pins++pl) σ H s):Inv X pins σ H s:=I.pins_of fun p hp=>I.pin p (List.mem_append_right _ (List.mem_append_left _ hp))
theorem ae6 {iter:Expr} {body:List Stmt} {wi:TI} {g:TG} {tb:TS} {pos:Pos} (hp:PassesOwn (model X.prog X.w) X.A X.env X.xe) (hc:X.calm=true) (hi:PI X tg iter wi) (hg:PG X tg g) (hb:PSs X body tb)
 (hs:∀ x,foldedSetIterable iter X.env x=pure x:=by intro _;rfl):PS X (.For tg iter body [] pos) (tFor wi g tb):=by
 intro pins s σ H D I h
 refine wpAny_For (thn (hi pins s σ H _ I h) fun v s1 h1=>thn h1 fun itv s2 h2=>?_) hs
 obtain ⟨it,fp,tn,J,H2,e,I2,T,st2,f2,W,⟨m0,w0⟩,turn⟩:=h2
 subst e
 have stat:∀ {H':Hp},(∀ b∈fp,H' b=none)->∀ b∈fp,FpOk X pins H' b:=fun hn b hb=>⟨hn b hb,(f2 b hb).2⟩
 refine codeAny_forLoop_any (fun n s'=>∃ i σ' H',Inv X pins σ' H' s'/\tn i s'.heap/\(∀ b∈fp,H' b=none)/\W i n σ' H') ?_ m0 ⟨0,σ,H2,I2,st2,fun b hb=>(f2 b hb).1,w0⟩
 rintro n s3 ⟨i,σ3,H3,I3,st3,fr3,w3⟩
 rcases turn i n σ3 H3 w3 with ⟨stop,qn⟩|⟨go,N,hN,step⟩
 ·refine wpAny_passesOwn hp (thn (T.done X rfl rfl rfl hc i pins s3 σ3 H3 X.xe I3 (stat fr3) st3 stop) fun r s4 ⟨hr,I4⟩=>?_)
  subst hr
  exact wpAny_execs_nil ⟨σ3,H3,I4,qn⟩
 ·refine wpAny_passesOwn hp (thn (T.item X rfl rfl rfl hc i pins s3 σ3 H3 X.xe I3 (stat fr3) st3 go) fun r s4 ⟨u,hr,h4⟩=>?_)
  subst hr
  refine wpAny_passesOwn hp (thn h4 fun _ s5 ⟨x,H5,I5,r5,y5,st5,fr5⟩=>?_)
  have I5':=I5.pinned (stat fr5) (T.obj _ _ st5)
  refine wpAny_passesOwn hp (thn (hg _ s5 σ3 H5 x u _ I5' r5 (step x H5 y5)) fun _ s6 ⟨σ6,H6,I6,q6⟩=>?_)
  refine wpAny_passesOwn hp (thn (hb _ s6 σ6 H6 _ I6 q6) fun f s7 q7=>?_)
  have again:∀ {σ7:St} {H7:Hp},Inv X (pins++pinsAt fp s5.heap) σ7 H7 s7->N σ7 H7->∃ m,m<n/\∃ i σ' H',Inv X pins σ' H' s7/\tn i s7.heap/\(∀ b∈fp,H' b=none)/\W i m σ' H':=fun {σ7 H7} I7 n7=>by
   obtain ⟨m',hm,w7⟩:=hN σ7 H7 n7
   refine ⟨m',hm,i+1,σ7,H7,I7.unpinned,T.keep _ _ _ st5 fun b hb o e=>(I7.pin (b,o) (List.mem_append_right _ (List.mem_append_right _ (ah2 hb e)))).1,fun b hb=>?_,w7⟩
   obtain ⟨o,e,d⟩:=T.obj _ _ st5 b hb
   exact (I7.pin (b,o) (List.mem_append_right _ (List.mem_append_right _ (ah2 hb e)))).2.1
  cases f with
  |next=>obtain ⟨σ7,H7,I7,n7⟩:=q7;exact again I7 n7
  |cont=>obtain ⟨σ7,H7,I7,n7⟩:=q7;exact again I7 n7
  |brk=>obtain ⟨σ7,H7,I7,q7⟩:=q7;exact ⟨σ7,H7,I7.unpinned,q7⟩
  |ret v=>obtain ⟨x7,σ7,H7,I7,r7,q7⟩:=q7;exact ⟨x7,σ7,H7,I7.unpinned,r7,q7⟩
end
theorem for_list {K:PySem.W.Frag} {a:Addr} {xs:List V} {g:TG} {tb:TS} {D:Ends} {σ:St} {H:Hp} (Pv:Nat->St->Hp->Prop) (h0:Pv 0 σ H) (hl:∀ i σ H,i≤xs.length->Pv i σ H->SqL K H a xs)
 (hs:∀ i x σ H,xs[i]?=some x->Pv i σ H->g x σ H fun σ2 H2=>tb { D with nx:=Pv (i+1),ct:=Pv (i+1),bk:=D.nx } σ2 H2) (hd:∀ σ H,Pv xs.length σ H->D.nx σ H) :
 ∃ W:Nat->Nat->St->Hp->Prop,(∃ m,W 0 m σ H)/\∀ i m σ H,W i m σ H->
   ((Itl K a).stop i H/\D.nx σ H)∨((Itl K a).go i H/\∃ N:St->Hp->Prop,(∀ σ' H',N σ' H'->∃ m',m'<m/\W (i+1) m' σ' H')/\∀ x H',(Itl K a).yld i H x H'->g x σ H' fun σ2 H2=>tb { D with nx:=N,ct:=N,bk:=D.nx } σ2 H2):=by
 refine ⟨fun i m σ H=>m=xs.length-i/\i≤xs.length/\Pv i σ H,⟨xs.length,by simp,Nat.zero_le _,h0⟩,?_⟩
 rintro i m σ H ⟨rfl,hi,p⟩
 have q:=hl i σ H hi p
 by_cases hlt:i<xs.length
 ·refine .inr ⟨⟨xs,xs[i],q,by simp [hlt]⟩,Pv (i+1),fun σ' H' p'=>⟨xs.length-(i+1),by omega,rfl,hlt,p'⟩,fun x H' y=>?_⟩
  obtain ⟨e,y⟩:=y
  subst e
  exact hs i x σ _ (y xs q) p
 ·have e:i=xs.length:=by omega
  subst e
  exact .inl ⟨⟨xs,q,Nat.le_refl _⟩,hd σ H p⟩
theorem for_tup {K:PySem.W.Frag} {a:Addr} {xs:List V} {g:TG} {tb:TS} {D:Ends} {σ:St} {H:Hp} (Pv:Nat->St->Hp->Prop) (h0:Pv 0 σ H) (hl:∀ i σ H,i≤xs.length->Pv i σ H->SqT K H a xs)
 (hs:∀ i x σ H,xs[i]?=some x->Pv i σ H->g x σ H fun σ2 H2=>tb { D with nx:=Pv (i+1),ct:=Pv (i+1),bk:=D.nx } σ2 H2) (hd:∀ σ H,Pv xs.length σ H->D.nx σ H) :
 ∃ W:Nat->Nat->St->Hp->Prop,(∃ m,W 0 m σ H)/\∀ i m σ H,W i m σ H->
   ((Itt K a).stop i H/\D.nx σ H)∨((Itt K a).go i H/\∃ N:St->Hp->Prop,(∀ σ' H',N σ' H'->∃ m',m'<m/\W (i+1) m' σ' H')/\∀ x H',(Itt K a).yld i H x H'->g x σ H' fun σ2 H2=>tb { D with nx:=N,ct:=N,bk:=D.nx } σ2 H2):=by
 refine ⟨fun i m σ H=>m=xs.length-i/\i≤xs.length/\Pv i σ H,⟨xs.length,by simp,Nat.zero_le _,h0⟩,?_⟩
 rintro i m σ H ⟨rfl,hi,p⟩
 have q:=hl i σ H hi p
 by_cases hlt:i<xs.length
 ·refine .inr ⟨⟨xs,xs[i],q,by simp [hlt]⟩,Pv (i+1),fun σ' H' p'=>⟨xs.length-(i+1),by omega,rfl,hlt,p'⟩,fun x H' y=>?_⟩
  obtain ⟨e,y⟩:=y
  subst e
  exact hs i x σ _ (y xs q) p
 ·have e:i=xs.length:=by omega
  subst e
  exact .inl ⟨⟨xs,q,Nat.le_refl _⟩,hd σ H p⟩
theorem ae2 {lo:Int} {n:Nat} {g:TG} {tb:TS} {D:Ends} {σ:St} {H:Hp} (Pv:Nat->St->Hp->Prop) (h0:Pv 0 σ H)
 (hs:∀ i σ H,i<n->Pv i σ H->g (.int (lo+i)) σ H fun σ2 H2=>tb { D with nx:=Pv (i+1),ct:=Pv (i+1),bk:=D.nx } σ2 H2) (hd:∀ σ H,Pv n σ H->D.nx σ H) :
 ∃ W:Nat->Nat->St->Hp->Prop,(∃ m,W 0 m σ H)/\∀ i m σ H,W i m σ H->
   ((Itr lo n).stop i H/\D.nx σ H)∨((Itr lo n).go i H/\∃ N:St->Hp->Prop,(∀ σ' H',N σ' H'->∃ m',m'<m/\W (i+1) m' σ' H')/\∀ x H',(Itr lo n).yld i H x H'->g x σ H' fun σ2 H2=>tb { D with nx:=N,ct:=N,bk:=D.nx } σ2 H2):=by
 refine ⟨fun i m σ H=>m=n-i/\i≤n/\Pv i σ H,⟨n,by simp,Nat.zero_le _,h0⟩,?_⟩
 rintro i m σ H ⟨rfl,hi,p⟩
 by_cases hlt:i<n
 ·refine .inr ⟨hlt,Pv (i+1),fun σ' H' p'=>⟨n-(i+1),by omega,rfl,hlt,p'⟩,fun x H' y=>?_⟩
  obtain ⟨e,y⟩:=y
  subst e y
  exact hs i σ _ hlt p
 ·have e:i=n:=by omega
  subst e
  exact .inl ⟨Nat.le_refl _,hd σ H p⟩
abbrev R2:=V->V->Hp->VK->Prop
def OpR (X:Cx) (f:Value->Value->Sem Value) (r:R2):Prop:=
 ∀ (pins:List (Addr×Obj)) (s:Shared) (σ:St) (H:Hp) (x y:V) (v u:Value) (Q:VK),Inv X pins σ H s->RelV x v->RelV y u->r x y H Q->
   wpAny (model X.prog X.w) X.A (f v u) (EP X pins σ Q) X.xe s
def UnR (X:Cx) (f:Value->Sem Value) (r:V->Hp->VK->Prop):Prop:=
 ∀ (pins:List (Addr×Obj)) (s:Shared) (σ:St) (H:Hp) (x:V) (v:Value) (Q:VK),Inv X pins σ H s->RelV x v->r x H Q->
   wpAny (model X.prog X.w) X.A (f v) (EP X pins σ Q) X.xe s
def ag5 (X:Cx) (f:Value) (r:List V->Hp->VK->Prop):Prop:=
 ∀ (pins:List (Addr×Obj)) (s:Shared) (σ:St) (H:Hp) (xs:List V) (us:List Value) (Q:VK),Inv X pins σ H s->Vals xs us->r xs H Q->
   wpAny (model X.prog X.w) X.A (call f us) (EP X pins σ Q) X.xe s
def tOp (r:R2) (ta tb:TE):TE:=fun σ H Q=>ta σ H fun x H1=>tb σ H1 fun y H2=>r x y H2 Q
def tUn (r:V->Hp->VK->Prop) (ta:TE):TE:=fun σ H Q=>ta σ H fun x H1=>r x H1 Q
def rI (C:Int->Int->Prop) (g:Int->Int->V):R2:=fun x y H Q=>∃ i j,x=.int i/\y=.int j/\C i j/\Q (g i j) H
def rI0 (g:Int->Int->V):R2:=fun x y H Q=>∃ i j,x=.int i/\y=.int j/\Q (g i j) H
def rU (g:Int->V):V->Hp->VK->Prop:=fun x H Q=>∃ i,x=.int i/\Q (g i) H
section
variable {X:Cx} {a b c:Expr} {ta tb tc:TE} {pos:Pos}
theorem binT (ha:PE X a ta) (hb:PE X b tb) {pins:List (Addr×Obj)} {s:Shared} {σ:St} {H:Hp} {R:V->V->Hp->Prop} (I:Inv X pins σ H s)
 (h:ta σ H fun x H1=>tb σ H1 fun y H2=>R x y H2) {Q:Value->Shared->Prop} {f:Value->Value->Sem Value}
 (hf:∀ v u s2 x y H2,Inv X pins σ H2 s2->RelV x v->RelV y u->R x y H2->wpAny (model X.prog X.w) X.A (f v u) Q X.xe s2) :
 wpAny (model X.prog X.w) X.A (eval a X.env) (fun v s₁=>wpAny (model X.prog X.w) X.A (eval b X.env) (fun u s₂=>wpAny (model X.prog X.w) X.A (f v u) Q X.xe s₂) X.xe s₁) X.xe s:=by
 refine thn (ha pins s σ H _ I h) fun v s1 ⟨x,H1,I1,r1,q1⟩=>?_
 refine thn (hb pins s1 σ H1 _ I1 q1) fun u s2 ⟨y,H2,I2,r2,q2⟩=>?_
 exact hf v u s2 x y H2 I2 r1 r2 q2
theorem a81 {op:Operator} {r:R2} (ho:OpR X (binaryOp op) r) (ha:PE X a ta) (hb:PE X b tb):PE X (.BinOp a op b pos) (tOp r ta tb):=by
 intro pins s σ H Q I h
 exact wpAny_BinOp (binT ha hb I h fun v u s2 x y H2 I2 rx ry q=>ho pins s2 σ H2 x y v u Q I2 rx ry q)
theorem aq9 {op:UnaryOp} {r:V->Hp->VK->Prop} (ho:UnR X (unaryOp op) r) (ha:PE X a ta):PE X (.UnaryOp op a pos) (tUn r ta):=by
 intro pins s σ H Q I h
 exact UnaryOp_ (thn (ha pins s σ H _ I h) fun v s1 ⟨x,H1,I1,r1,q1⟩=>ho pins s1 σ H1 x v Q I1 r1 q1)
theorem opI {f:Value->Value->Sem Value} {C:Int->Int->Prop} {g:Int->Int->Int}
 (rule:∀ (i j:Int) (t u:Tok) (s:Shared) (Q:Value->Shared->Prop) (E:Value->Shared->Prop),C i j->Q (.int (g i j) s.toks) { s with toks:=s.toks+1 }->wpAny (model X.prog X.w) X.A (f (.int i t) (.int j u)) Q E s) :
 OpR X f (rI C fun i j=>.int (g i j)):=by
 intro pins s σ H x y v u Q I rx ry h
 obtain ⟨i,j,rfl,rfl,hc,q⟩:=h
 obtain ⟨t,rfl⟩:=rx
 obtain ⟨t',rfl⟩:=ry
 exact rule i j t t' s _ _ hc ⟨.int (g i j),H,I.tok _,⟨_,rfl⟩,q⟩
theorem opI0 {f:Value->Value->Sem Value} {g:Int->Int->Int}
 (rule:∀ (i j:Int) (t u:Tok) (s:Shared) (Q:Value->Shared->Prop) (E:Value->Shared->Prop),Q (.int (g i j) s.toks) { s with toks:=s.toks+1 }->wpAny (model X.prog X.w) X.A (f (.int i t) (.int j u)) Q E s) :
 OpR X f (rI0 fun i j=>.int (g i j)):=by
 intro pins s σ H x y v u Q I rx ry h
 obtain ⟨i,j,rfl,rfl,q⟩:=h
 obtain ⟨t,rfl⟩:=rx
 obtain ⟨t',rfl⟩:=ry
 exact rule i j t t' s _ _ ⟨.int (g i j),H,I.tok _,⟨_,rfl⟩,q⟩
theorem opB0 {f:Value->Value->Sem Value} {g:Int->Int->Bool}
 (rule:∀ (i j:Int) (t u:Tok) (s:Shared) (Q:Value->Shared->Prop) (E:Value->Shared->Prop),Q (.bool (g i j)) s->wpAny (model X.prog X.w) X.A (f (.int i t) (.int j u)) Q E s) :
 OpR X f (rI0 fun i j=>.bl (g i j)):=by
 intro pins s σ H x y v u Q I rx ry h
 obtain ⟨i,j,rfl,rfl,q⟩:=h
 obtain ⟨t,rfl⟩:=rx
 obtain ⟨t',rfl⟩:=ry
 exact rule i j t t' s _ _ ⟨.bl (g i j),H,I,rfl,q⟩
def CDiv (i j:Int):Prop:=0<j/\j<1073741824
def CPow (i j:Int):Prop:=0≤j/\j≤1000000/\i.natAbs<2 ^ 64
def CMul (i j:Int):Prop:=(-(2 ^ 64)<i/\i<2 ^ 64)∨(-(2 ^ 64)<j/\j<2 ^ 64)
theorem CMul.ok {i j:Int} (h:CMul i j):IntMulOk i j:=by
 rcases h with ⟨h1,h2⟩|⟨h1,h2⟩
 ·exact .of_left (intBits_le_64 h1 h2)
 ·exact .of_right (intBits_le_64 h1 h2)
theorem aa6:OpR X (binaryOp .Add) (rI0 fun i j=>.int (i+j)):=opI0 fun _ _ _ _ _ _ _ q=>add_int q
theorem ae0:OpR X (binaryOp .Sub) (rI0 fun i j=>.int (i-j)):=opI0 fun _ _ _ _ _ _ _ q=>sub_int q
theorem ao5:OpR X (binaryOp .Mult) (rI CMul fun i j=>.int (i*j)):=opI fun _ _ _ _ _ _ _ hc q=>mul_int q hc.ok
theorem op_fdiv:OpR X (binaryOp .FloorDiv) (rI CDiv fun i j=>.int (i / j)):=opI fun i j _ _ _ _ _ hc q=>by
 have h1:(0:Int)<j:=hc.1
 have h2:j<1073741824:=hc.2
 exact floordiv_int (by omega) (by rw [Int.fdiv_eq_ediv_of_nonneg i (by omega)];exact q) (.inl (PyProof.noPylong_small (by omega)))
theorem ah5:OpR X (binaryOp .Mod) (rI (fun _ j=>0<j) fun i j=>.int (i % j)):=opI fun i j _ _ _ _ _ hc q=>by
 have h1:(0:Int)<j:=hc
 exact mod_int' (by omega) (by rw [Int.fmod_eq_emod_of_nonneg i (by omega)];exact q)
theorem op_pow:OpR X (binaryOp .Pow) (rI CPow fun i j=>.int (i ^ j.toNat)):=opI fun _ _ _ _ _ _ _ hc q=>pow_int_small hc.1 hc.2.1 hc.2.2 q
theorem unI {f:Value->Sem Value} {g:Int->Int}
 (rule:∀ (i:Int) (t:Tok) (s:Shared) (Q:Value->Shared->Prop) (E:Value->Shared->Prop),Q (.int (g i) s.toks) { s with toks:=s.toks+1 }->wpAny (model X.prog X.w) X.A (f (.int i t)) Q E s) :
 UnR X f (rU fun i=>.int (g i)):=by
 intro pins s σ H x v Q I rx h
 obtain ⟨i,rfl,q⟩:=h
 obtain ⟨t,rfl⟩:=rx
 exact rule i t s _ _ ⟨.int (g i),H,I.tok _,⟨_,rfl⟩,q⟩
theorem ai8:UnR X (unaryOp .USub) (rU fun i=>.int (-i)):=unI fun _ _ _ _ _ q=>neg_int q
end
def scal:V->V->Bool
 |.non,.non=>true|.non,.int _=>true|.int _,.non=>true|.non,.bl _=>true|.bl _,.non=>true|.non,.str _=>true|.str _,.non=>true
 |.int _,.int _=>true|.bl _,.bl _=>true|.str _,.str _=>true|.byt _,.byt _=>true
 |.int _,.str _=>true|.str _,.int _=>true|.bl _,.str _=>true|.str _,.bl _=>true
 |_,_=>false
def rEq:R2:=fun x y H Q=>scal x y=true/\Q (.bl (decide (x=y))) H
def rNe:R2:=fun x y H Q=>scal x y=true/\Q (.bl (!decide (x=y))) H
theorem dec_int {i j:Int}:decide (V.int i=V.int j)=(i == j):=by
 rw [Bool.eq_iff_iff]
 simp
theorem dec_bl {i j:Bool}:decide (V.bl i=V.bl j)=(i == j):=by
 rw [Bool.eq_iff_iff]
 simp
theorem af2 {i j:Str}:decide (V.str i=V.str j)=(i == j):=by
 rw [Bool.eq_iff_iff]
 simp
theorem dec_byt {i j:Array UInt8}:decide (V.byt i=V.byt j)=(i.toList == j.toList):=by
 rw [Bool.eq_iff_iff]
 cases i
 cases j
 simp
section
variable {X:Cx} {a b c:Expr} {ta tb tc:TE} {pos:Pos}
theorem a92 {pins:List (Addr×Obj)} {σ:St} {H:Hp} {s:Shared} {Q:VK} {k k':Bool} (I:Inv X pins σ H s) (q:Q (.bl k) H) (e:k=k'):EP X pins σ Q (.bool k') s:=by
 subst e
 exact ⟨.bl k,H,I,rfl,q⟩
theorem a85:OpR X (compareOp .Eq) rEq:=by
 intro pins s σ H x y v u Q I rx ry h
 obtain ⟨hs,q⟩:=h
 cases x with
 | non=>
   cases rx
   cases y with
   |non=>cases ry;exact PySem.EqNone.eq_none_none (a92 I q (by simp))
   |bl j=>cases ry;exact PySem.EqNone.eq_none_bool (a92 I q (by simp))
   |int j=>obtain ⟨t',rfl⟩:=ry;exact PySem.EqNone.eq_none_int (a92 I q (by simp))
   |str j=>obtain ⟨t',rfl⟩:=ry;exact PySem.EqNone.eq_none_str (a92 I q (by simp))
   |_=>exact absurd (show false=true from hs) Bool.false_ne_true
 | bl i=>
   cases rx
   cases y with
   |non=>cases ry;exact PySem.EqNone.eq_bool_none (a92 I q (by simp))
   |bl j=>cases ry;exact eq_bool (a92 I q dec_bl)
   |str j=>obtain ⟨t',rfl⟩:=ry;exact PySem.EqMixed.eq_bool_str (a92 I q (by simp))
   |_=>exact absurd (show false=true from hs) Bool.false_ne_true
 | int i=>
   obtain ⟨t,rfl⟩:=rx
   cases y with
   |non=>cases ry;exact PySem.EqNone.eq_int_none (a92 I q (by simp))
   |int j=>obtain ⟨t',rfl⟩:=ry;exact eq_int (a92 I q dec_int)
   |str j=>obtain ⟨t',rfl⟩:=ry;exact PySem.EqMixed.eq_int_str (a92 I q (by simp))
   |_=>exact absurd (show false=true from hs) Bool.false_ne_true
 | str i=>
   obtain ⟨t,rfl⟩:=rx
   cases y with
   |non=>cases ry;exact PySem.EqNone.eq_str_none (a92 I q (by simp))
   |bl j=>cases ry;exact PySem.EqMixed.eq_str_bool (a92 I q (by simp))
   |int j=>obtain ⟨t',rfl⟩:=ry;exact PySem.EqMixed.eq_str_int (a92 I q (by simp))
   |str j=>obtain ⟨t',rfl⟩:=ry;exact eq_str (a92 I q af2)
   |_=>exact absurd (show false=true from hs) Bool.false_ne_true
 | byt i=>
   obtain ⟨t,rfl⟩:=rx
   cases y with
   |byt j=>obtain ⟨t',rfl⟩:=ry;exact PySem.W.eq_bytes (a92 I q dec_byt)
   |_=>exact absurd (show false=true from hs) Bool.false_ne_true
 |_=>cases y <;> exact absurd (show false=true from hs) Bool.false_ne_true
theorem op_ne:OpR X (compareOp .NotEq) rNe:=by
 intro pins s σ H x y v u Q I rx ry h
 obtain ⟨hs,q⟩:=h
 cases x with
 | non=>
   cases rx
   cases y with
   |non=>cases ry;exact PySem.EqNone.ne_none_none (a92 I q (by simp))
   |bl j=>cases ry;exact PySem.EqNone.ne_none_bool (a92 I q (by simp))
   |int j=>obtain ⟨t',rfl⟩:=ry;exact PySem.EqNone.ne_none_int (a92 I q (by simp))
   |str j=>obtain ⟨t',rfl⟩:=ry;exact PySem.EqNone.ne_none_str (a92 I q (by simp))
   |_=>exact absurd (show false=true from hs) Bool.false_ne_true
 | bl i=>
   cases rx
   cases y with
   |non=>cases ry;exact PySem.EqNone.ne_bool_none (a92 I q (by simp))
   |bl j=>cases ry;exact ne_bool (a92 I q (congrArg not dec_bl))
   |str j=>obtain ⟨t',rfl⟩:=ry;exact PySem.EqMixed.ne_bool_str (a92 I q (by simp))
   |_=>exact absurd (show false=true from hs) Bool.false_ne_true
 | int i=>
   obtain ⟨t,rfl⟩:=rx
   cases y with
   |non=>cases ry;exact PySem.EqNone.ne_int_none (a92 I q (by simp))
   |int j=>obtain ⟨t',rfl⟩:=ry;exact ne_int (a92 I q (congrArg not dec_int))
   |str j=>obtain ⟨t',rfl⟩:=ry;exact PySem.EqMixed.ne_int_str (a92 I q (by simp))
   |_=>exact absurd (show false=true from hs) Bool.false_ne_true
 | str i=>
   obtain ⟨t,rfl⟩:=rx
   cases y with
   |non=>cases ry;exact PySem.EqNone.ne_str_none (a92 I q (by simp))
   |bl j=>cases ry;exact PySem.EqMixed.ne_str_bool (a92 I q (by simp))
   |int j=>obtain ⟨t',rfl⟩:=ry;exact PySem.EqMixed.ne_str_int (a92 I q (by simp))
   |str j=>obtain ⟨t',rfl⟩:=ry;exact ne_str (a92 I q (congrArg not af2))
   |_=>exact absurd (show false=true from hs) Bool.false_ne_true
 | byt i=>
   obtain ⟨t,rfl⟩:=rx
   cases y with
   |byt j=>obtain ⟨t',rfl⟩:=ry;exact PySem.W.ne_bytes (a92 I q (congrArg not dec_byt))
   |_=>exact absurd (show false=true from hs) Bool.false_ne_true
 |_=>cases y <;> exact absurd (show false=true from hs) Bool.false_ne_true
theorem op_lt:OpR X (compareOp .Lt) (rI0 fun i j=>.bl (decide (i<j))):=opB0 fun _ _ _ _ _ _ _ q=>lt_int q
theorem af8:OpR X (compareOp .LtE) (rI0 fun i j=>.bl (decide (i≤j))):=opB0 fun _ _ _ _ _ _ _ q=>le_int q
theorem op_gt:OpR X (compareOp .Gt) (rI0 fun i j=>.bl (decide (j<i))):=opB0 fun _ _ _ _ _ _ _ q=>gt_int q
theorem op_ge:OpR X (compareOp .GtE) (rI0 fun i j=>.bl (decide (j≤i))):=opB0 fun _ _ _ _ _ _ _ q=>ge_int q
theorem op_in_str:OpR X (compareOp .In) (fun x y H Q=>∃ i j,x=.str i/\y=.str j/\Q (.bl (!(Builtin.Str.occurrences j i 0 j.length 1).isEmpty)) H):=by
 intro pins s σ H x y v u Q I rx ry h
 obtain ⟨i,j,rfl,rfl,q⟩:=h
 obtain ⟨t,rfl⟩:=rx
 obtain ⟨t',rfl⟩:=ry
 exact in_str (a92 I q rfl)
theorem op_isN:OpR X (compareOp .Is) (fun x y H Q=>y=.non/\Q (.bl (decide (x=.non))) H):=by
 intro pins s σ H x y v u Q I rx ry h
 obtain ⟨rfl,q⟩:=h
 cases ry
 refine is_none_gen (a92 I q ?_)
 cases x <;> first
  |(cases rx;rfl)
  |(obtain ⟨t,rfl⟩:=rx;rfl)
theorem a72 (b:Expr) {op:CmpOp} (h:op≠.In:=by decide) (h2:op≠.NotIn:=by decide):behindInMarks op b=false:=by
 have e1:(op == CmpOp.In)=false:=by cases op <;> first|rfl|exact absurd rfl h
 have e2:(op == CmpOp.NotIn)=false:=by cases op <;> first|rfl|exact absurd rfl h2
 cases b <;> simp [behindInMarks,e1,e2]
theorem a94 {op:CmpOp} {r:R2} (ho:OpR X (compareOp op) r) (ha:PE X a ta) (hb:PE X b tb) (hm:behindInMarks op b=false):PE X (.Compare a [op] [b] pos) (tOp r ta tb):=by
 intro pins s σ H Q I h
 exact wpAny_Compare1 (binT ha hb I h fun v u s2 x y H2 I2 rx ry q=>ho pins s2 σ H2 x y v u Q I2 rx ry q) hm
def tTest (t:TE):TT:=fun σ H Q=>t σ H fun x H'=>∃ k,x=.bl k/\Q k H'
theorem a67 {op:CmpOp} {r:R2} (ho:OpR X (compareOp op) r) (ha:PE X a ta) (hb:PE X b tb) (hm:behindInMarks op b=false):PT X (.Compare a [op] [b] pos) (tTest (tOp r ta tb)):=by
 intro pins s σ H Q I h
 refine wpAny_isTrue_Compare1 (thn (ha pins s σ H _ I h) fun v s1 ⟨x,H1,I1,r1,q1⟩=>thn (hb pins s1 σ H1 _ I1 q1) fun u s2 ⟨y,H2,I2,r2,q2⟩=>
  thn (ho pins s2 σ H2 x y v u _ I2 r1 r2 q2) fun c s3 ⟨z,H3,I3,r3,k,e,q3⟩=>?_) hm
 subst e
 cases r3
 exact wpAny_truthy_bool ⟨H3,I3,q3⟩
def tChain (r r':R2) (ta tb tc:TE):TE:=fun σ H Q=>ta σ H fun x H1=>tb σ H1 fun y H2=>r x y H2 fun z H3=>∃ k,z=.bl k/\
 (if k=true then tc σ H3 fun w' H4=>r' y w' H4 Q else Q (.bl false) H3)
theorem al7 {op op':CmpOp} {r r':R2} (ho:OpR X (compareOp op) r) (ho':OpR X (compareOp op') r') (ha:PE X a ta) (hb:PE X b tb) (hc:PE X c tc)
 (hm:lastMarks [op,op'] [b,c]=false:=by with_unfolding_all rfl):PE X (.Compare a [op,op'] [b,c] pos) (tChain r r' ta tb tc):=by
 intro pins s σ H Q I h
 refine Compare_chain (thn (ha pins s σ H _ I h) fun v s1 ⟨x,H1,I1,r1,q1⟩=>chain_link (thn (hb pins s1 σ H1 _ I1 q1) fun u s2 ⟨y,H2,I2,r2,q2⟩=>
  thn (ho pins s2 σ H2 x y v u _ I2 r1 r2 q2) fun d s3 ⟨z,H3,I3,r3,k,e,q3⟩=>?_)) hm
 subst e
 cases r3
 refine wpAny_truthy_bool ?_
 cases k with
 |false=>exact ite_ff ⟨.bl false,H3,I3,rfl,q3⟩
 |true=>exact ite_tt (chain_last (thn (hc pins s3 σ H3 _ I3 q3) fun w' s4 ⟨z',H4,I4,r4,q4⟩=>ho' pins s4 σ H4 y z' u w' Q I4 r2 r4 q4))
theorem pt_chain {op op':CmpOp} {r r':R2} (ho:OpR X (compareOp op) r) (ho':OpR X (compareOp op') r') (ha:PE X a ta) (hb:PE X b tb) (hc:PE X c tc)
 (hm:lastMarks [op,op'] [b,c]=false:=by with_unfolding_all rfl):PT X (.Compare a [op,op'] [b,c] pos) (tTest (tChain r r' ta tb tc)):=by
 intro pins s σ H Q I h
 refine isTrue_chain (thn (ha pins s σ H _ I h) fun v s1 ⟨x,H1,I1,r1,q1⟩=>test_link (thn (hb pins s1 σ H1 _ I1 q1) fun u s2 ⟨y,H2,I2,r2,q2⟩=>
  thn (ho pins s2 σ H2 x y v u _ I2 r1 r2 q2) fun d s3 ⟨z,H3,I3,r3,k,e,q3⟩=>?_)) hm
 subst e
 cases r3
 refine wpAny_truthy_bool ?_
 cases k with
 | false=>
   obtain ⟨k',e',q'⟩:=q3
   cases e'
   exact ite_ff ⟨H3,I3,q'⟩
 | true=>
   refine ite_tt (test_last (thn (hc pins s3 σ H3 _ I3 q3) fun w' s4 ⟨z',H4,I4,r4,q4⟩=>thn (ho' pins s4 σ H4 y z' u w' _ I4 r2 r4 q4) fun d' s5 ⟨z2,H5,I5,r5,k2,e2,q5⟩=>?_))
   subst e2
   cases r5
   exact wpAny_truthy_bool ⟨H5,I5,q5⟩
theorem aq5:(sizeLine:Nat)<2 ^ 63:=by rw [sizeLine_eq];decide
theorem a98:OpR X (binaryOp .Add) (fun x y H Q=>∃ i j,x=.str i/\y=.str j/\i.length+j.length≤sizeLine/\Q (.str (i++j)) H):=by
 intro pins s σ H x y v u Q I rx ry h
 obtain ⟨i,j,rfl,rfl,hz,q⟩:=h
 obtain ⟨t,rfl⟩:=rx
 obtain ⟨t',rfl⟩:=ry
 exact add_str (fun t' tk=>⟨.str (i++j),H,I.tok _,⟨_,rfl⟩,q⟩) hz
theorem vals1 {x:V} {us:List Value} (r:Vals [x] us):∃ u,us=[u]/\RelV x u:=by
 cases r with
 |cons r1 r2=>cases r2;exact ⟨_,rfl,r1⟩
theorem vals2 {x y:V} {us:List Value} (r:Vals [x,y] us):∃ u w',us=[u,w']/\RelV x u/\RelV y w':=by
 cases r with
 | cons r1 r2=>
   cases r2 with
   |cons r3 r4=>cases r4;exact ⟨_,_,rfl,r1,r3⟩
theorem call_max2 (hc:X.calm=true):ag5 X (.builtin "max") (fun xs H Q=>∃ i j,xs=[.int i,.int j]/\Q (.int (if j > i then j else i)) H):=by
 intro pins s σ H xs us Q I r h
 obtain ⟨i,j,rfl,q⟩:=h
 obtain ⟨u,w',rfl,⟨t,rfl⟩,⟨t',rfl⟩⟩:=vals2 r
 refine max_two_ints (I.ok.hd hc) fun h' tk k=>⟨_,H,I.kept k,?_,q⟩
 by_cases hj:j > i
 ·rw [if_pos hj,if_pos hj];exact ⟨_,rfl⟩
 ·rw [if_neg hj,if_neg hj];exact ⟨_,rfl⟩
theorem ai7 (hc:X.calm=true):ag5 X (.builtin "min") (fun xs H Q=>∃ i j,xs=[.int i,.int j]/\Q (.int (if j<i then j else i)) H):=by
 intro pins s σ H xs us Q I r h
 obtain ⟨i,j,rfl,q⟩:=h
 obtain ⟨u,w',rfl,⟨t,rfl⟩,⟨t',rfl⟩⟩:=vals2 r
 refine min_two_ints (I.ok.hd hc) fun h' tk k=>⟨_,H,I.kept k,?_,q⟩
 by_cases hj:j<i
 ·rw [if_pos hj,if_pos hj];exact ⟨_,rfl⟩
 ·rw [if_neg hj,if_neg hj];exact ⟨_,rfl⟩
theorem ag8:ag5 X (.type "str") (fun xs H Q=>∃ i,xs=[.int i]/\i.natAbs.log2<1920/\Q (.str (toString i)) H):=by
 intro pins s σ H xs us Q I r h
 obtain ⟨i,rfl,hz,q⟩:=h
 obtain ⟨u,rfl,t,rfl⟩:=vals1 r
 exact PySem.P.str_of_int hz ⟨.str _,H,I.tok _,⟨_,rfl⟩,q⟩
end
structure ObjM (h:Heap) (x dx C:Addr) (mA:Str->Option Value):Prop where
 obj:h.get? x=some (PySem.W.instObj C dx)
 ns:h.Ns1 dx mA
 ne:dx≠x
theorem ao4 {h:Heap} {dx:Addr} {mA:Str->Option Value} (n:h.Ns1 dx mA):∃ od,h.get? dx=some od/\∀ name,PySem.W.lookIn name od=some (mA name):=by
 obtain ⟨o,es,ep,ho,hd,hk,_,hm⟩:=n
 refine ⟨o,ho,fun name=>?_⟩
 have e:=hm name
 unfold nsFind findBy at e
 rw [← Array.find?_toList] at e
 unfold PySem.W.lookIn
 rw [hd]
 dsimp only
 split
 ·rename_i y q
  rw [q] at e
  exact congrArg some e
 ·rename_i q
  rw [q] at e
  have a:es.toList.any (·.refKey)=false:=by
   rw [List.any_eq_false]
   intro y hy
   obtain ⟨z,t,hkey⟩:=hk y (Array.mem_toList_iff.mp hy)
   simp [DictEntry.refKey,hkey]
  have a':¬ es.toList.any (·.refKey)=true:=by rw [a];exact Bool.false_ne_true
  rw [if_neg a']
  exact congrArg some e
theorem ObjM.look {h:Heap} {x dx C:Addr} {mA:Str->Option Value} (I:ObjM h x dx C mA):∃ od,PySem.W.InstAt h x (PySem.W.instObj C dx) C (some od)/\∀ name,PySem.W.lookIn name od=some (mA name):=
 let ⟨od,ho,hl⟩:=ao4 I.ns
 ⟨od,⟨I.obj,rfl,rfl,ho⟩,hl⟩
section
variable {prog:Program} {w:World} {A:Around} {E:Value->Shared->Prop} {s:Shared} {K:PySem.W.Frag} {x dx C f:Addr} {mA:Str->Option Value} {name:Str} {v:Value}
theorem get_map {expr:Bool} {Q:Value->Shared->Prop} (X:K.In s.heap) (I:ObjM s.heap x dx C mA) (hg:PySem.W.plainGet K C name=true) (hh:PySem.W.hasDictIn K C=true)
 (ha:PySem.W.findIn K (.ref C) name=some none) (hv:mA name=some v) (hv':PySem.W.handedIn v=true) (h:Q v { s with toks:=s.toks+1 }) :
 wpAny (model prog w) A (getAttr (.ref x) name expr) Q E s:=by
 obtain ⟨od,J,hl⟩:=I.look
 exact PySem.W.get_value X J (PySem.W.plainGet_of hg).1 (PySem.W.findObj_own hh ha rfl (by rw [hl,hv])) hv' h
theorem get_meth {pl:Sem Bool} {Q:Value×List Value->Shared->Prop} (X:K.In s.heap) (I:ObjM s.heap x dx C mA) (hg:PySem.W.plainGet K C name=true)
 (hf:PySem.W.findIn K (.ref C) name=some (some (.ref f))) (ht:PySem.W.isFn K (.ref f)=true) (hv:mA name=none) (h:Q (.ref f,[.ref x]) s) :
 wpAny (model prog w) A (getMethod (.ref x) name pl) Q E s:=by
 obtain ⟨od,J,hl⟩:=I.look
 exact PySem.W.method_fn X J (PySem.W.plainGet_of hg).1 (PySem.W.plainGet_of hg).2 hf (beq_iff_eq.mp ht) (by show (PySem.W.lookIn name od).map (·.isSome)=some false;rw [hl,hv];rfl) h
theorem set_map {ns:List Str} {Q:Unit->Shared->Prop} (X:K.In s.heap) (I:ObjM s.heap x dx C mA)
 (hs:PySem.W.findIn K (.ref C) "__setattr__" = some (some (.builtin "object.__setattr__"))) (hp:PySem.W.plainOver K C=true) (ht:PySem.W.takerIn K C name=some none) (hh:PySem.W.hasDictIn K C=true)
 (hw:PySem.Within mA ns) (hsz:ns.length≤sizeLine)
 (h:∀ h',ObjM h' x dx C (fun y=>if y=name then some v else mA y)->Heap.SameBut dx s.heap h'->Q () { s with heap:=h',toks:=s.toks+2 }) :
 wpAny (model prog w) A (setAttr (.ref x) name v) Q E s:=by
 obtain ⟨od,J,hl⟩:=I.look
 refine PySem.W.set_plain X J hs (PySem.W.osa_open (s:={ s with toks:=s.toks+1 }) (r:=none) X J hp ht fun b=>?_)
 obtain ⟨cd,hc,hd'⟩:=PySem.W.any_some hh
 have hx:s.heap.get? x=some ⟨.ref C,some dx,.plain,#[]⟩:=I.obj
 refine wpAny_bind (wpAny_pure (wpAny_bind (wpAny_bind (wpAny_loadPart hx (wpAny_bind (PySem.W.Looks.here (s:={ s with toks:=s.toks+1 }) (PySem.W.looks_clsIn X hc) ?_))))))
 rw [hd']
 refine wpAny_pure (a:=some dx) (wpAny_bind (wpAny_pure (wpAny_bind ?_)))
 refine wpAny_nsSet1 (s:={ s with toks:=s.toks+1 }) I.ns fun h' hn2 hs2=>?_
 obtain ⟨oD,esD,epD,hoD,hdD,hcD⟩:=hn2.count (PySem.Within.cons name v hw)
 refine wpAny_bind (wpAny_lookBehind hoD (by rw [hdD];exact pastItsLine_dict (Nat.le_trans hcD (by rw [List.length_cons];omega))) ?_)
 exact wpAny_pure (h _ ⟨(hs2.2 _ (Ne.symm I.ne)).trans I.obj,hn2,I.ne⟩ hs2)
theorem make_map {R:Result->Shared->Prop} {vs:List Value} {kw:List (Str×Value)} (X:K.In s.heap) (hm:PySem.W.makesIn K C=true)
 (hi:PySem.W.findIn K (.ref C) "__init__" = some (some (.ref f))) (hf:PySem.W.typeIn K (.ref f)=some (.type "function"))
 (h:codeAny (model prog w) (A.under (.builtin "type.__call__" ⟨.ref C::vs,kw⟩)) (.call (.ref f) ⟨.ref (s.heap.objs.size+1)::vs,kw⟩) (PySem.W.InitBack (s.heap.objs.size+1) R)
  { s with heap:=(s.heap.push PySem.W.emptyDict).push (PySem.W.instObj C s.heap.objs.size) }) :
 codeAny (model prog w) A (.call (.ref C) ⟨vs,kw⟩) R s:=by
 obtain ⟨hh,g,d,t,os⟩:=s
 exact PySem.W.make_core (PySem.W.makes_of X hm) (PySem.W.looks_findIn X hi) (fun self=>PySem.W.bind_fn X self hf) (.inl rfl) h
end
def putF (f:Str) (v:V):List (Str×V)->List (Str×V)
 |[]=>[(f,v)]
 |(g,x)::r=>if g=f then (g,v)::r else (g,x)::putF f v r
theorem aa2 (f g:Str) (v:V):∀ fs:List (Str×V),(putF f v fs).lookup g=if g=f then some v else fs.lookup g
 | []=>by
   show List.lookup g [(f,v)]=_
   by_cases h:g=f
   ·have hb:(g == f)=true:=beq_iff_eq.mpr h
    simp only [List.lookup,hb,if_pos h]
   ·have hb:(g == f)=false:=beq_eq_false_iff_ne.mpr h
    simp only [List.lookup,hb,if_neg h]
 | (k,x)::r=>by
   have ih:=aa2 f g v r
   rw [show putF f v ((k,x)::r)=(if k=f then (k,v)::r else (k,x)::putF f v r) from rfl]
   by_cases hk:k=f
   ·rw [if_pos hk]
    by_cases h:g=k
    ·have hb:(g == k)=true:=beq_iff_eq.mpr h
     simp only [List.lookup,hb,if_pos (h.trans hk)]
    ·have hb:(g == k)=false:=beq_eq_false_iff_ne.mpr h
     simp only [List.lookup,hb,if_neg (fun e:g=f=>h (e.trans hk.symm))]
   ·rw [if_neg hk]
    by_cases h:g=k
    ·have hb:(g == k)=true:=beq_iff_eq.mpr h
     simp only [List.lookup,hb,if_neg (fun e:g=f=>hk (h.symm.trans e))]
    ·have hb:(g == k)=false:=beq_eq_false_iff_ne.mpr h
     simp only [List.lookup,hb]
     exact ih
theorem ag9 (f:Str) (v:V):∀ fs:List (Str×V),f∈(putF f v fs).map (·.1)/\∀ g,g∈fs.map (·.1)->g∈(putF f v fs).map (·.1)
 |[]=>⟨by simp [putF],fun g h=>by simp at h⟩
 | (k,x)::r=>by
   obtain ⟨i1,i2⟩:=ag9 f v r
   rw [show putF f v ((k,x)::r)=(if k=f then (k,v)::r else (k,x)::putF f v r) from rfl]
   by_cases hk:k=f
   ·rw [if_pos hk]
    subst hk
    exact ⟨by simp,fun g h=>by simpa using h⟩
   ·rw [if_neg hk]
    refine ⟨?_,fun g h=>?_⟩
    ·rw [List.map_cons]
     exact List.mem_cons_of_mem _ i1
    ·rw [List.map_cons] at h ⊢
     rcases List.mem_cons.mp h with e|e
     ·exact List.mem_cons.mpr (.inl e)
     ·exact List.mem_cons_of_mem _ (i2 g e)
theorem am7 (f:Str) (v:V):∀ fs:List (Str×V),(putF f v fs).length≤fs.length+1
 |[]=>by simp [putF]
 | (k,x)::r=>by
   have ih:=am7 f v r
   rw [show putF f v ((k,x)::r)=(if k=f then (k,v)::r else (k,x)::putF f v r) from rfl]
   by_cases hk:k=f
   ·rw [if_pos hk,List.length_cons,List.length_cons];omega
   ·rw [if_neg hk,List.length_cons,List.length_cons];omega
theorem RelO.some_of {v:V} {o:Option Value} (r:RelO (some v) o):∃ u,o=some u/\RelV v u:=by
 cases o with
 |none=>exact (show False from r).elim
 |some u=>exact ⟨u,rfl,r⟩
theorem RelO.none_of {o:Option Value} (r:RelO none o):o=none:=by
 cases o with
 |none=>rfl
 |some u=>exact (show False from r).elim
theorem handed_of {v:V} {u:Value} (r:RelV v u):PySem.W.handedIn u=true:=by
 cases v with
 |non=>cases (show u=Value.none from r);rfl
 |bl b=>cases (show u=Value.bool b from r);rfl
 |int i=>obtain ⟨t,e⟩:=(show ∃ t,u=Value.int i t from r);cases e;rfl
 |str x=>obtain ⟨t,e⟩:=(show ∃ t,u=Value.str x t from r);cases e;rfl
 |byt b=>obtain ⟨t,e⟩:=(show ∃ t,u=Value.bytes b t from r);cases e;rfl
 |flt b=>obtain ⟨t,e⟩:=(show ∃ t,u=Value.float b t from r);cases e;rfl
 |ref a=>cases (show u=Value.ref a from r);rfl
 |ty n=>cases (show u=Value.type n from r);rfl
section
variable {P:Program} {w:World} {H H':Hp} {h h':Heap} {a C dx:Addr} {fs fs':List (Str×V)}
theorem ins_get (hok:HOk P w H h) (e:H a=some (.ins C dx fs)):∃ mA,ObjM h a dx C mA/\(∀ f,RelO (fs.lookup f) (mA f))/\PySem.Within mA (fs.map (·.1))/\fs.length≤1000/\H dx=some (.own a):=by
 obtain ⟨d,z,ne,ob,mA,n,r,q⟩:=(show ab6 P w H h a (.ins C dx fs) from hok a _ e)
 exact ⟨mA,⟨ob,n,ne⟩,r,q,z,d⟩
end
structure Cls (K:PySem.W.Frag) (C:Addr):Prop where
 pg:PySem.W.plainGet K C Str.empty=true
 hd:PySem.W.hasDictIn K C=true
 po:PySem.W.plainOver K C=true
 sa:PySem.W.findIn K (.ref C) "__setattr__" = some (some (.builtin "object.__setattr__"))
theorem Cls.get {K:PySem.W.Frag} {C:Addr} (c:Cls K C) (f:Str):PySem.W.plainGet K C f=true:=c.pg
def ak8 (K:PySem.W.Frag) (C:Addr) (f:Str):Prop:=PySem.W.findIn K (.ref C) f=some none
theorem ak8.taker {K:PySem.W.Frag} {C:Addr} {f:Str} (n:ak8 K C f):PySem.W.takerIn K C f=some none:=by
 unfold PySem.W.takerIn
 rw [show PySem.W.findIn K (.ref C) f=some none from n]
 rfl
structure Meth (K:PySem.W.Frag) (C:Addr) (m:Str) (f:Addr):Prop where
 at_:PySem.W.findIn K (.ref C) m=some (some (.ref f))
 fn:PySem.W.isFn K (.ref f)=true
 kp:PySem.W.keepIn K (.ref f)=true
section
variable {X:Cx} {pins:List (Addr×Obj)} {σ:St} {H:Hp} {s:Shared} {a C dx:Addr} {fs:List (Str×V)} {f:Str} {v:V} {A:Around} {E:Value->Shared->Prop}
theorem getattr_ok {b:Bool} {Q:Value->Shared->Prop} (I:Inv X pins σ H s) (e:H a=some (.ins C dx fs)) (c:Cls X.K C) (n:ak8 X.K C f) (l:fs.lookup f=some v)
 (h:∀ u s',Inv X pins σ H s'->RelV v u->Q u s'):wpAny (model X.prog X.w) A (getAttr (.ref a) f b) Q E s:=by
 obtain ⟨mA,O,r,_,_,_⟩:=ins_get I.hok e
 obtain ⟨u,hu,ru⟩:=RelO.some_of (v:=v) (o:=mA f) (by rw [← l];exact r f)
 exact get_map I.kIn O (c.get f) c.hd n hu (handed_of ru) (h u _ (I.tok _) ru)
theorem aq3 {m:Str} {g:Addr} {pl:Sem Bool} {Q:Value×List Value->Shared->Prop} (I:Inv X pins σ H s) (e:H a=some (.ins C dx fs)) (c:Cls X.K C) (k:Meth X.K C m g) (l:fs.lookup m=none)
 (h:Q (.ref g,[.ref a]) s):wpAny (model X.prog X.w) A (getMethod (.ref a) m pl) Q E s:=by
 obtain ⟨mA,O,r,_,_,_⟩:=ins_get I.hok e
 have hn:mA m=none:=RelO.none_of (by rw [← l];exact r m)
 exact get_meth I.kIn O (c.get m) k.at_ k.fn hn h
theorem setattr_ok {y:V} {u:Value} {Q:Unit->Shared->Prop} (I:Inv X pins σ H s) (e:H a=some (.ins C dx fs)) (c:Cls X.K C) (n:ak8 X.K C f) (hl:fs.length<1000) (ry:RelV y u)
 (h:∀ s',Inv X pins σ (upd H a (.ins C dx (putF f y fs))) s'->Q () s'):wpAny (model X.prog X.w) A (setAttr (.ref a) f u) Q E s:=by
 obtain ⟨mA,O,r,wi,_,ho⟩:=ins_get I.hok e
 have hz:(fs.map (·.1)).length≤sizeLine:=by rw [List.length_map,sizeLine_eq];omega
 refine set_map I.kIn O c.sa c.po n.taker c.hd wi hz fun h' O' sb=>h _ ?_
 have hd:∃ o,h'.get? dx=some o:=let ⟨o,_,_,e',_⟩:=O'.ns;⟨o,e'⟩
 refine I.write (x:=a) (e:=dx) (by rw [e];exact True.intro) (.inr ho) (fun b q hb z=>(sb.2 b hb).trans z) hd ?_
 refine ⟨by rw [a68 O.ne];exact ho,?_,O.ne,O'.obj,_,O'.ns,fun g=>?_,fun g hg=>?_⟩
 ·have:=am7 f y fs;omega
 ·show RelO ((putF f y fs).lookup g) (if g=f then some u else mA g)
  rw [aa2]
  by_cases q:g=f
  ·rw [if_pos q,if_pos q];exact ry
  ·rw [if_neg q,if_neg q];exact r g
 ·by_cases q:g=f
  ·rw [q];exact (ag9 f y fs).1
  ·refine (ag9 f y fs).2 g (wi g fun z=>hg ?_)
   show (if g=f then some u else mA g)=none
   rw [if_neg q];exact z
theorem Inv.made (I:Inv X pins σ H s):Inv X pins σ (upd (upd H s.heap.objs.size (.own (s.heap.objs.size+1))) (s.heap.objs.size+1) (.ins C s.heap.objs.size []))
 { s with heap:=(s.heap.push PySem.W.emptyDict).push (PySem.W.instObj C s.heap.objs.size) }:=by
 have e1:(s.heap.push PySem.W.emptyDict).get? s.heap.objs.size=some PySem.W.emptyDict:=Heap.get?_push_size s.heap rfl
 have e2:((s.heap.push PySem.W.emptyDict).push (PySem.W.instObj C s.heap.objs.size)).get? (s.heap.objs.size+1)=some (PySem.W.instObj C s.heap.objs.size):=by
  have:=Heap.get?_push_size (s.heap.push PySem.W.emptyDict) (o:=PySem.W.instObj C s.heap.objs.size) rfl
  rwa [Heap.size_push] at this
 have e3:(s.heap.push PySem.W.emptyDict).Ns s.heap.objs.size (fun _=>none):=⟨PySem.W.emptyDict,#[],_,e1,rfl,(fun e he=>absurd he (by simp)),fun _=>rfl⟩
 have I1:=I.laid (a:=s.heap.objs.size) (o:=.own (s.heap.objs.size+1)) (h':=s.heap.push PySem.W.emptyDict) (t':=s.toks) (fun b u q=>Heap.get?_push_of_some _ q) (Nat.le_refl _) ⟨_,e1⟩
 refine I1.laid (a:=s.heap.objs.size+1) (o:=.ins C s.heap.objs.size []) (t':=s.toks) (fun b u q=>Heap.get?_push_of_some _ q) (Nat.le_of_eq (Heap.size_push _ _)) ?_
 have ne:s.heap.objs.size≠s.heap.objs.size+1:=Nat.ne_of_lt (Nat.lt_succ_self _)
 refine ⟨by rw [a68 ne,a02],Nat.zero_le _,ne,e2,fun _=>none,(Heap.Ns1.of_empty e3).at fun o q=>Heap.get?_push_of_some _ q,fun _=>True.intro,fun y hy=>absurd rfl hy⟩
theorem attr_of {prog:Program} {w:World} {env:Env} {e:Expr} {f:Str} {pos:Pos} {s:Shared} {Q:Value->Shared->Prop} (hb:attributeBase e f env (eval e env)=eval e env)
 (h:wpAny (model prog w) A (eval e env) (fun o s₁=>wpAny (model prog w) A (getAttr o f true) Q E s₁) E s):wpAny (model prog w) A (eval (.Attribute e f pos) env) Q E s:=
 Attribute_any_ h (by rw [arm_eval_Attribute,hb])
end
def tFld (K:PySem.W.Frag) (ta:TE) (f:Str):TE:=fun σ H Q=>ta σ H fun x H1=>∃ a C dx fs v,x=.ref a/\H1 a=some (.ins C dx fs)/\Cls K C/\ak8 K C f/\fs.lookup f=some v/\Q v H1
def sFld (K:PySem.W.Frag) (ta tv:TE) (f:Str):TS:=fun D σ H=>tv σ H fun y H1=>ta σ H1 fun x H2=>∃ a C dx fs,x=.ref a/\H2 a=some (.ins C dx fs)/\Cls K C/\ak8 K C f/\fs.length<1000/\
 D.nx σ (upd H2 a (.ins C dx (putF f y fs)))
section
variable {X:Cx} {o e value:Expr} {f:Str} {pos pos' tpos:Pos} {ta tv:TE}
theorem pe_fld (he:PE X e ta) (hb:attributeBase e f X.env (eval e X.env)=eval e X.env):PE X (.Attribute e f pos) (tFld X.K ta f):=by
 intro pins s σ H Q I h
 refine attr_of hb (thn (he pins s σ H _ I h) fun u s1 ⟨x,H1,I1,rx,a,C,dx,fs,v,ex,ea,c,n,l,q⟩=>?_)
 subst ex
 obtain rfl:u=Value.ref a:=rx
 exact getattr_ok I1 ea c n l fun u' s2 I2 ru=>⟨v,H1,I2,ru,q⟩
theorem ps_fld (ha:PE X o ta) (hv:PE X value tv) (hs:swapsWith value (some (.Attribute o f pos')) pos.line X.env=pure false):PS X (.Assign [.Attribute o f pos'] value pos) (sFld X.K ta tv f):=by
 intro pins s σ H D I h
 refine plainObj_wpAny_Assign_Attribute (thn (hv pins s σ H _ I h) fun u s1 ⟨y,H1,I1,ry,q⟩=>thn (ha pins s1 σ H1 _ I1 q) fun ov s2 ⟨x,H2,I2,rx,a,C,dx,fs,ex,ea,c,n,l,q2⟩=>?_) hs
 subst ex
 obtain rfl:ov=Value.ref a:=rx
 exact setattr_ok I2 ea c n l ry fun s3 I3=>⟨σ,_,I3,q2⟩
theorem methcall_of {pl:Sem Bool} {m:Str} {apos:Pos} {args:List Expr} {pins:List (Addr×Obj)} {s:Shared} {σ:St} {H:Hp} {Q:Value->Shared->Prop} {te:TE} (he:PE X e te) (I:Inv X pins σ H s)
 (h:te σ H fun x H1=>∃ a C dx fs g,x=.ref a/\H1 a=some (.ins C dx fs)/\Cls X.K C/\Meth X.K C m g/\fs.lookup m=none/\
  ∀ s1,Inv X pins σ H1 s1->wpAny (model X.prog X.w) X.A (callWith pos (.ref g) [.ref a] (backTo pos (starEach args X.env)) (backToKw pos (keywordEach [] X.env))) Q X.xe s1)
 (ht:eval (.Call (.Attribute e m apos) args [] pos) X.env=(do
  let ov ← eval e X.env
  standAt apos.atName
  let (f,first) ← holding [ov] (getMethod ov m pl)
  callWith pos f first (backTo pos (starEach args X.env)) (backToKw pos (keywordEach [] X.env)))) :
 wpAny (model X.prog X.w) X.A (eval (.Call (.Attribute e m apos) args [] pos) X.env) Q X.xe s:=by
 refine PySem.W.methodCall_KW (pl:=pl) (thn (he pins s σ H _ I h) fun u s1 ⟨x,H1,I1,rx,a,C,dx,fs,g,ex,ea,c,k,l,q⟩=>?_) ht
 subst ex
 obtain rfl:u=Value.ref a:=rx
 exact aq3 I1 ea c k l (q s1 I1)
end
section
variable {X:Cx} {pins:List (Addr×Obj)} {σ:St} {H:Hp} {s:Shared} {A:Around} {E:Value->Shared->Prop} {Q:Value->Shared->Prop} {c:Value} {b:Bool}
end
structure Room (k:Nat) (A:Around):Prop where
 hd:A.handled=none
 dp:A.depth+3*k+5<recursionLimit
 un:A.units+16*k+200<cLine
 gd:A.guards=some []
theorem Room.mono {j k:Nat} {A:Around} (r:Room k A) (h:j≤k):Room j A:=⟨r.hd,by have:=r.dp;omega,by have:=r.un;omega,r.gd⟩
theorem Room.deeper {k:Nat} {A:Around} (r:Room (k+1) A) (env:Env):Room k (A.deeper env):=
 ⟨r.hd,by have:=r.dp;show A.depth+1+3*k+5<_;omega,by have:=r.un;show A.units+3+16*k+200<_;omega,r.gd⟩
theorem make_depth {A:Around} {C:Addr} {us:List Value} {kw:List (Str×Value)}:(A.under (.builtin "type.__call__" ⟨.ref C::us,kw⟩)).depth=A.depth+1:=by
 first|rfl|simp [Around.under,Code.weight,Code.isCreation,Code.isGuard,Code.isCaller,Code.frames,Code.isFrame,guardIds]
theorem make_units {A:Around} {C:Addr} {us:List Value} {kw:List (Str×Value)}:(A.under (.builtin "type.__call__" ⟨.ref C::us,kw⟩)).units=A.units+1:=by
 first|rfl|simp [Around.under,Code.cUnits,Code.frames,Code.isFrame]
theorem Room.make {k:Nat} {A:Around} (r:Room (k+1) A) (C:Addr) (us:List Value) (kw:List (Str×Value)):Room k (A.under (.builtin "type.__call__" ⟨.ref C::us,kw⟩)):=
 ⟨r.hd,by have:=r.dp;rw [make_depth];omega,by have:=r.un;rw [make_units];omega,by have:=r.gd;first|exact this|(simpa [Around.under] using this)⟩
theorem Room.depth {k:Nat} {A:Around} (r:Room k A):A.depth<recursionLimit:=by have:=r.dp;omega
theorem Room.units {k:Nat} {A:Around} (r:Room k A):A.units+64<cLine:=by have:=r.un;omega
def tNil:TA:=fun _ H Q=>Q [] H
def tCons (ta:TE) (tr:TA):TA:=fun σ H Q=>ta σ H fun x H1=>tr σ H1 fun xs H2=>Q (x::xs) H2
section
variable {X:Cx} {e:Expr} {es:List Expr} {te:TE} {t:TA} {pos:Pos}
theorem a01:PA X [] tNil:=fun _ _ _ _ H Q I h=>Calls.spliced_nil ⟨[],H,I,.nil,h⟩
theorem a00 (ha:PE X e te) (hr:PA X es t) (hs:starEach (e::es) X.env=(false,eval e X.env)::starEach es X.env:=by rfl):PA X (e::es) (tCons te t):=by
 intro pos pins s σ H Q I h
 rw [hs]
 show wpAny _ _ (spliced ((false,eval e X.env)::backTo pos (starEach es X.env))) _ _ s
 refine Calls.spliced_cons (thn (ha pins s σ H _ I h) fun u s1 ⟨x,H1,I1,r1,q1⟩=>?_)
 exact thn (hr pos pins s1 σ H1 _ I1 q1) fun us s2 ⟨xs,H2,I2,r2,q2⟩=>⟨x::xs,H2,I2,.cons r1 r2,q2⟩
def tTup (t:TA):TE:=fun σ H Q=>t σ H fun xs H1=>xs.length≤sizeLine/\∀ p,H1 p=none->Q (.ref p) (upd H1 p (.tup xs))
def tLst (t:TA):TE:=fun σ H Q=>t σ H fun xs H1=>xs.length≤sizeLine/\∀ p,H1 p=none->Q (.ref p) (upd H1 p (.lst xs))
theorem a96 {x1} (h:PA X es t):PE X (.Tuple es x1 pos) (tTup t):=by
 intro pins s σ H Q I hq
 refine wpAny_Tuple_spliced (thn (h pos pins s σ H _ I hq) fun us s1 ⟨xs,H1,I1,r,z,q⟩=>⟨by rw [← r.length];exact z,?_⟩)
 have hf:H1 s1.heap.objs.size=none:=I1.hok.fresh (Nat.le_refl _)
 refine ⟨.ref s1.heap.objs.size,upd H1 s1.heap.objs.size (.tup xs),I1.laid (t':=s1.toks) (fun b u e=>Heap.get?_push_of_some _ e) (Nat.le_refl _) ?_,rfl,q _ hf⟩
 exact ⟨z,us,r,⟨_,Heap.get?_push_size _ rfl,rfl,_,rfl⟩⟩
theorem a97 (h:PA X es t):PE X (.List es pos) (tLst t):=by
 intro pins s σ H Q I hq
 refine wpAny_List_spliced (thn (h pos pins s σ H _ I hq) fun us s1 ⟨xs,H1,I1,r,z,q⟩=>⟨by rw [← r.length];exact z,?_⟩)
 have hf:H1 s1.heap.objs.size=none:=I1.hok.fresh (Nat.le_refl _)
 refine ⟨.ref s1.heap.objs.size,upd H1 s1.heap.objs.size (.lst xs),I1.laid (t':=s1.toks) (fun b u e=>Heap.get?_push_of_some _ e) (Nat.le_refl _) ?_,rfl,q _ hf⟩
 exact ⟨z,us,0,r,Heap.get?_push_size _ rfl⟩
end
abbrev Sp:=List V->Hp->VK->XK->Prop
abbrev CXT:=List Env->Hp->Shared->XK->Value->Shared->Prop
structure Env0 (P:Program) (w:World) (K:PySem.W.Frag) (mg:Str->Option Value) (base:Heap) (A:Around) (outer:List Env) (s:Shared) (H:Hp):Prop where
 frames:A.frames=some outer
 mod:Mod K mg base
 bs:∀ b o,base.get? b=some o->s.heap.get? b=some o/\H b=none
 bsz:base.objs.size≤s.heap.objs.size
 funs:s.heap.FunFrames base outer
 frf:∀ b∈frs outer,H b=none
 hok:HOk P w H s.heap
 bare:AllBare s.gens
def CE (outer:List Env) (P:Program) (w:World) (H:Hp) (s:Shared) (Q:VK) (u:Value) (s':Shared):Prop:=
 ∃ v H',s'.os=s.os/\AllBare s'.gens/\Un (frs outer) [] H H' s.heap s'.heap/\HOk P w H' s'.heap/\RelV v u/\Q v H'
def CR (CX:CXT) (outer:List Env) (P:Program) (w:World) (H:Hp) (s:Shared) (Q:VK) (E:XK) (r:Result) (s':Shared):Prop:=
 match r with
 |.ok (.ret u)=>CE outer P w H s Q u s'
 |.ok _=>False
 |.error e=>CX outer H s E e s'
structure FnOk (P:Program) (w:World) (K:PySem.W.Frag) (mg:Str->Option Value) (base:Heap) (CX:CXT) (k:Nat) (f:Addr) (fd:FuncData) (ps:List Str) (sp:Sp):Prop where
 len:∀ vs H Q E,sp vs H Q E->vs.length=ps.length
 run:∀ (A:Around) (outer:List Env) (s:Shared) (H:Hp) (args:Args) (us:List Value) (vs:List V) (Q:VK) (E:XK),Room k A->Env0 P w K mg base A outer s H->BindsTo s fd args (ps.zip us)->Vals vs us->sp vs H Q E->
  codeAny (model P w) A (.call (.ref f) args) (CR CX outer P w H s Q E) s
theorem Env0.make {P:Program} {w:World} {K:PySem.W.Frag} {mg:Str->Option Value} {base:Heap} {A:Around} {outer:List Env} {s:Shared} {H:Hp} (e:Env0 P w K mg base A outer s H) (C:Addr) (us:List Value) (kw:List (Str×Value)) :
 Env0 P w K mg base (A.under (.builtin "type.__call__" ⟨.ref C::us,kw⟩)) outer s H:=⟨by first|exact e.frames|(simpa [Around.under,Code.envs,Code.isFrame,pushEnvs] using e.frames),e.mod,e.bs,e.bsz,e.funs,e.frf,e.hok,e.bare⟩
section
variable {X:Cx} {pins:List (Addr×Obj)} {σ:St} {H:Hp} {s s':Shared}
theorem Inv.env0 (I:Inv X pins σ H s):Env0 X.prog X.w X.K X.mg X.base X.A X.stack s H:=
 ⟨I.ok.frames,I.ok.mod,I.bs,Nat.le_trans I.ok.bsz I.sz,I.stack,I.stkFree,I.hok,I.bare⟩
theorem Inv.after {Q:VK} {u:Value} (I:Inv X pins σ H s) (h:CE X.stack X.prog X.w H s Q u s'):EP X pins σ Q u s':=by
 obtain ⟨v,H',os,bare,un,hok,r,q⟩:=h
 obtain ⟨hh,g,d,t,os'⟩:=s'
 obtain rfl:os'=s.os:=os
 exact ⟨v,H',I.call (h':=hh) (g':=g) (d':=d) (t':=t) (ch:=[]) un hok bare (fun b z=>absurd z (by simp)),r,q⟩
end
def tCall (sp:Sp) (dvs:List V) (E:XK) (t:TA):TE:=fun σ H Q=>t σ H fun vs H1=>sp (vs++dvs) H1 Q E
def tMeth (C:Addr) (m:Str) (sp:Sp) (dvs:List V) (E:XK) (ta:TE) (t:TA):TE:=fun σ H Q=>ta σ H fun x H1=>∃ a dx fs,x=.ref a/\H1 a=some (.ins C dx fs)/\fs.lookup m=none/\
 t σ H1 fun vs H2=>sp (x::(vs++dvs)) H2 Q E
def tMake (C:Addr) (sp:Sp) (dvs:List V) (E:XK) (t:TA):TE:=fun σ H Q=>t σ H fun vs H1=>∀ x dx,H1 x=none->H1 dx=none->dx≠x->
 sp (.ref x::(vs++dvs)) (upd (upd H1 dx (.own x)) x (.ins C dx [])) (fun v H2=>v=.non/\Q (.ref x) H2) E
def Binds (K:PySem.W.Frag) (fd:FuncData) (ps:List Str) (ds:List Value):Prop:=
 ∀ (s:Shared) (us:List Value),K.In s.heap->(us++ds).length=ps.length->BindsTo s fd ⟨us,[]⟩ (ps.zip (us++ds))
theorem Binds.all {K:PySem.W.Frag} {fd:FuncData} {ps:List Str} (h:∀ us:List Value,us.length=ps.length->bindArgs fd ⟨us,[]⟩=pure (ps.zip us)):Binds K fd ps []:=fun s us _ hl=>by
 rw [List.append_nil] at hl ⊢
 exact .of_eq (h us hl)
def ae4 (CX:CXT) (X:Cx) (E:XK):Prop:=∀ (pins:List (Addr×Obj)) (σ:St) (H:Hp) (s:Shared) (e:Value) (s':Shared),Inv X pins σ H s->CX X.stack H s E e s'->X.xe e s'
section
variable {X:Cx} {CX:CXT} {k:Nat} {f C:Addr} {fd:FuncData} {ps:List Str} {sp:Sp} {dvs:List V} {ds:List Value} {E:XK} {x m:Str} {p pos apos:Pos} {e o:Expr} {es:List Expr} {ta:TE} {t:TA}
theorem run_fn {pins:List (Addr×Obj)} {σ:St} {H:Hp} {s:Shared} {Q:VK} {us:List Value} {vs:List V} (F:FnOk X.prog X.w X.K X.mg X.base CX k f fd ps sp) (hr:Room k X.A) (hb:Binds X.K fd ps ds) (hd:Vals dvs ds) (hx:ae4 CX X E)
 (I:Inv X pins σ H s) (r:Vals vs us) (h:sp (vs++dvs) H Q E):wpAny (model X.prog X.w) X.A (call (.ref f) us) (EP X pins σ Q) X.xe s:=by
 have r2:Vals (vs++dvs) (us++ds):=r.append hd
 have hl:(us++ds).length=ps.length:=by rw [← r2.length];exact F.len _ _ _ _ h
 refine wpAny_call (codeAny_mono (F.run X.A X.stack s H ⟨us,[]⟩ (us++ds) (vs++dvs) Q E hr I.env0 (hb s us I.kIn hl) r2 h) fun r s' hq=>?_)
 cases r with
 |error e=>exact hx pins σ H s e s' I hq
 | ok fl=>
   cases fl with
   |ret u=>exact I.after hq
   |next=>exact False.elim hq
   |brk=>exact False.elim hq
   |cont=>exact False.elim hq
theorem a07 (F:FnOk X.prog X.w X.K X.mg X.base CX k f fd ps sp) (hr:Room k X.A) (hg:Gl X x) (hm:X.mg x=some (.ref f)) (hk:PySem.W.keepIn X.K (.ref f)=true) (hb:Binds X.K fd ps ds) (hd:Vals dvs ds) (hx:ae4 CX X E)
 (ha:PA X (e::es) t) (hdb:(x == ("__debug__" : Str))=false:=by decide) (he:starEach (e::es) X.env=(false,eval e X.env)::starEach es X.env:=by rfl) (hpl:(backTo pos (starEach es X.env)).any (·.1)=false:=by rfl) :
 PE X (.Call (.Name x p) (e::es) [] pos) (tCall sp dvs E t):=by
 intro pins s σ H Q I h
 refine wpAny_Call_Name_kw (ak2 I hg hm ?_ hdb)
 refine PySem.W.callWith_K (h₀:=X.base) I.ok.mod.kin hk (thn (ha pos pins s σ H _ I h) fun us s1 ⟨vs,H1,I1,r,q⟩=>⟨I1.kIn,?_⟩) he hpl
 exact run_fn F hr hb hd hx I1 r q
theorem pe_meth {pl:Sem Bool} (he:PE X o ta) (c:Cls X.K C) (hm:Meth X.K C m f) (F:FnOk X.prog X.w X.K X.mg X.base CX k f fd ps sp) (hr:Room k X.A) (hb:Binds X.K fd ps ds) (hd:Vals dvs ds) (hx:ae4 CX X E) (ha:PA X (e::es) t)
 (hst:starEach (e::es) X.env=(false,eval e X.env)::starEach es X.env:=by rfl) (hpl:(backTo pos (starEach es X.env)).any (·.1)=false:=by rfl)
 (ht:eval (.Call (.Attribute o m apos) (e::es) [] pos) X.env=(do
  let ov ← eval o X.env
  standAt apos.atName
  let (f,first) ← holding [ov] (getMethod ov m pl)
  callWith pos f first (backTo pos (starEach (e::es) X.env)) (backToKw pos (keywordEach [] X.env))):=by rfl) :
 PE X (.Call (.Attribute o m apos) (e::es) [] pos) (tMeth C m sp dvs E ta t):=by
 intro pins s σ H Q I h
 refine PySem.W.methodCall_KW (pl:=pl) (thn (he pins s σ H _ I h) fun u s1 ⟨x,H1,I1,rx,a,dx,fs,ex,ea,l,q⟩=>?_) ht
 subst ex
 obtain rfl:u=Value.ref a:=rx
 refine aq3 I1 ea c hm l ?_
 refine PySem.W.callWith_K (first:=[.ref a]) (h₀:=X.base) I.ok.mod.kin hm.kp (thn (ha pos pins s1 σ H1 _ I1 q) fun us s2 ⟨vs,H2,I2,r,q2⟩=>⟨I2.kIn,?_⟩) hst hpl
 exact run_fn (us:=.ref a::us) (vs:=.ref a::vs) F hr hb hd hx I2 (.cons rfl r) q2
structure Mk (K:PySem.W.Frag) (C f:Addr):Prop where
 makes:PySem.W.makesIn K C=true
 init:PySem.W.findIn K (.ref C) "__init__" = some (some (.ref f))
 fn:PySem.W.isFn K (.ref f)=true
 kp:PySem.W.keepIn K (.ref C)=true
theorem run_make {pins:List (Addr×Obj)} {σ:St} {H:Hp} {s:Shared} {Q:VK} {us:List Value} {vs:List V} (M:Mk X.K C f) (F:FnOk X.prog X.w X.K X.mg X.base CX k f fd ps sp) (hr:Room (k+1) X.A) (hb:Binds X.K fd ps ds) (hd:Vals dvs ds)
 (hx:ae4 CX X E) (I:Inv X pins σ H s) (r:Vals vs us)
 (h:∀ x dx,H x=none->H dx=none->dx≠x->sp (.ref x::(vs++dvs)) (upd (upd H dx (.own x)) x (.ins C dx [])) (fun v H2=>v=.non/\Q (.ref x) H2) E) :
 wpAny (model X.prog X.w) X.A (call (.ref C) us) (EP X pins σ Q) X.xe s:=by
 have hq:=h (s.heap.objs.size+1) s.heap.objs.size (I.hok.fresh (Nat.le_succ _)) (I.hok.fresh (Nat.le_refl _)) (Nat.ne_of_lt (Nat.lt_succ_self _))
 have I2:=Inv.made (C:=C) I
 have r2:Vals (V.ref (s.heap.objs.size+1)::(vs++dvs)) (Value.ref (s.heap.objs.size+1)::(us++ds)):=.cons rfl (r.append hd)
 have hl:(Value.ref (s.heap.objs.size+1)::us++ds).length=ps.length:=by
  have e:=r2.length
  rw [F.len _ _ _ _ hq] at e
  exact e.symm
 refine wpAny_call (make_map (f:=f) I.kIn M.makes M.init (beq_iff_eq.mp M.fn) (codeAny_mono (F.run _ X.stack _ _ ⟨Value.ref (s.heap.objs.size+1)::us,[]⟩ (Value.ref (s.heap.objs.size+1)::(us++ds)) _ _ E (hr.make C us [])
  (I2.env0.make C us []) (hb _ (Value.ref (s.heap.objs.size+1)::us) I2.kIn hl) r2 hq) fun r s' hq'=>?_))
 cases r with
 |error e=>exact hx pins σ _ _ e s' I2 hq'
 | ok fl=>
   cases fl with
   | ret u=>
     obtain ⟨v,H',I3,rv,ev,q3⟩:=I2.after hq'
     subst ev
     exact ⟨rv,⟨V.ref (s.heap.objs.size+1),H',I3,rfl,q3⟩⟩
   |next=>exact False.elim hq'
   |brk=>exact False.elim hq'
   |cont=>exact False.elim hq'
theorem pe_make (M:Mk X.K C f) (F:FnOk X.prog X.w X.K X.mg X.base CX k f fd ps sp) (hr:Room (k+1) X.A) (hg:Gl X x) (hm:X.mg x=some (.ref C)) (hb:Binds X.K fd ps ds) (hd:Vals dvs ds) (hx:ae4 CX X E)
 (ha:PA X (e::es) t) (hdb:(x == ("__debug__" : Str))=false:=by decide) (he:starEach (e::es) X.env=(false,eval e X.env)::starEach es X.env:=by rfl) (hpl:(backTo pos (starEach es X.env)).any (·.1)=false:=by rfl) :
 PE X (.Call (.Name x p) (e::es) [] pos) (tMake C sp dvs E t):=by
 intro pins s σ H Q I h
 refine wpAny_Call_Name_kw (ak2 I hg hm ?_ hdb)
 refine PySem.W.callWith_K (h₀:=X.base) I.ok.mod.kin M.kp (thn (ha pos pins s σ H _ I h) fun us s1 ⟨vs,H1,I1,r,q⟩=>⟨I1.kIn,?_⟩) he hpl
 exact run_make M F hr hb hd hx I1 r q
end
section
variable {X:Cx} {CX:CXT} {k:Nat} {f C:Addr} {fd:FuncData} {ps ks:List Str} {sp:Sp} {E:XK} {x m:Str} {p pos apos kpos:Pos} {e o:Expr} {es:List Expr} {kws:List Keyword} {te ta:TE} {t tk:TA} {nm:Option Str}
variable {g:List Value->List Value->List Value} {gV:List V->List V->List V}
end
structure a77 (N P:List Str) (sc:Scope):Prop where
 kind:sc.kind=.function
 co:sc.isCoroutine=false
 gen:sc.isGenerator=false
 nd:N.Nodup
 pre:N.take P.length=P
 par:∀ x∈P,sc.names.lookup x=some .local∨sc.names.lookup x=some .cell
 nofree:∀ y∈sc.names,y.2≠.free
theorem bindL_out {kindOf:Str->Option NameKind} {x:Str}:∀ {binds:List (Str×Value)} {m:Str->Option Value},(∀ v,(x,v)∉binds)->bindL kindOf binds m x=m x
 |[],_,_=>rfl
 | (n,v)::r,m,h=>by
   unfold bindL
   rw [bindL_out fun w hw=>h w (List.mem_cons_of_mem _ hw)]
   split
   ·have:x≠n:=by rintro rfl;exact h v List.mem_cons_self
    simp [this]
   ·rfl
theorem bindC_out {kindOf:Str->Option NameKind} {x:Str}:∀ {binds:List (Str×Value)} {m:Str->Option Value},(∀ v,(x,v)∉binds)->bindC kindOf binds m x=m x
 |[],_,_=>rfl
 | (n,v)::r,m,h=>by
   unfold bindC
   rw [bindC_out fun w hw=>h w (List.mem_cons_of_mem _ hw)]
   split
   ·rfl
   ·have:x≠n:=by rintro rfl;exact h v List.mem_cons_self
    simp [this]
theorem bindL_get {kindOf:Str->Option NameKind} {x:Str} {v:Value}:∀ {P:List Str} {vs:List Value} {i:Nat} {m:Str->Option Value},P.Nodup->P[i]?=some x->vs[i]?=some v->kindOf x=some .local->
 bindL kindOf (P.zip vs) m x=some v
 |[],_,_,_,_,h,_,_=>by simp at h
 |_::_,[],_,_,_,_,h,_=>by simp at h
 | p::P,w::vs,0,m,nd,h1,h2,hk=>by
   simp at h1 h2;subst h1;subst h2
   show bindL kindOf ((p,w)::P.zip vs) m p=_
   unfold bindL
   rw [bindL_out fun v hv=>(List.nodup_cons.mp nd).1 (List.of_mem_zip hv).1,if_pos hk]
   simp
 | p::P,w::vs,i+1,m,nd,h1,h2,hk=>by
   show bindL kindOf ((p,w)::P.zip vs) m x=_
   unfold bindL
   exact bindL_get (i:=i) (List.nodup_cons.mp nd).2 (by simpa using h1) (by simpa using h2) hk
theorem bindC_get {kindOf:Str->Option NameKind} {x:Str} {v:Value}:∀ {P:List Str} {vs:List Value} {i:Nat} {m:Str->Option Value},P.Nodup->P[i]?=some x->vs[i]?=some v->kindOf x≠some .local->
 bindC kindOf (P.zip vs) m x=some v
 |[],_,_,_,_,h,_,_=>by simp at h
 |_::_,[],_,_,_,_,h,_=>by simp at h
 | p::P,w::vs,0,m,nd,h1,h2,hk=>by
   simp at h1 h2;subst h1;subst h2
   show bindC kindOf ((p,w)::P.zip vs) m p=_
   unfold bindC
   rw [bindC_out fun v hv=>(List.nodup_cons.mp nd).1 (List.of_mem_zip hv).1,if_neg hk]
   simp
 | p::P,w::vs,i+1,m,nd,h1,h2,hk=>by
   show bindC kindOf ((p,w)::P.zip vs) m x=_
   unfold bindC
   exact bindC_get (i:=i) (List.nodup_cons.mp nd).2 (by simpa using h1) (by simpa using h2) hk
def start (N:List Str) (vs:List V):St:=vs.map some++List.replicate (N.length-vs.length) none
def cxOf (CX:CXT) (P:Program) (w:World) (K:PySem.W.Frag) (mg:Str->Option Value) (base:Heap) (N:List Str) (qual:Str) (scope:Scope) (f:Addr) (cd:Value) (A:Around) (outer:List Env) (s:Shared) (H:Hp) (E:XK):Cx where
 prog:=P
 w:=w
 K:=K
 mg:=mg
 base:=base
 A:=A.deeper (envOfC qual scope s.heap.objs.size f cd)
 N:=N
 s₀:=s
 H₀:=H
 env:=envOfC qual scope s.heap.objs.size f cd
 outer:=outer
 stack:=envOfC qual scope s.heap.objs.size f cd::outer
 ex:=[]
 calm:=true
 fn:=fun _=>true
 pn:=[]
 xe:=fun e s'=>wpAny (model P w) (A.deeper (envOfC qual scope s.heap.objs.size f cd)) (leaving (envOfC qual scope s.heap.objs.size f cd) e) (fun _ s''=>CX outer H s E e s'') (fun e' s''=>CX outer H s E e' s'') s'
theorem cell_has {sc:Scope} {n:Nat} {x:Str} (h:sc.names.lookup x=some .cell):∃ c,(cellsFrom n sc.names []).lookup x=some c:=by
 have q:=PySem.W.cellsFrom_some sc.names n [] (.inl h)
 exact Option.isSome_iff_exists.mp q
theorem inv_start {CX:CXT} {P:Program} {w:World} {K:PySem.W.Frag} {mg:Str->Option Value} {base:Heap} {N ps:List Str} {qual:Str} {scope:Scope} {f:Addr} {cd:Value} {A:Around} {outer:List Env} {s s1:Shared} {H:Hp} {E:XK} {us:List Value} {vs:List V}
 (S:a77 N ps scope) (hd:A.handled=none) (e0:Env0 P w K mg base A outer s H) (hl:vs.length=ps.length) (r:Vals vs us)
 (x:InCallC s s.heap.objs.size (bindL (envOfC qual scope s.heap.objs.size f cd).kindOf (ps.zip us) fun _=>none) (cellsFrom (s.heap.objs.size+1) scope.names []) (bindC (envOfC qual scope s.heap.objs.size f cd).kindOf (ps.zip us) fun _=>none) s1) :
 Inv (cxOf CX P w K mg base N qual scope f cd A outer s H E) [] (start N vs) H s1:=by
 have hpl:ps.length≤N.length:=by have:=congrArg List.length S.pre;rw [List.length_take] at this;omega
 obtain ⟨h1,tk,rfl,hk⟩:=x.done
 have noA:∀ b:Addr,b∉(cxOf CX P w K mg base N qual scope f cd A outer s H E).ex:=fun b z=>absurd (show b∈([]:List Addr) from z) (by simp)
 refine ⟨⟨e0.mod,S.kind,rfl,rfl,Nat.le_refl _,fun y z c h1 h2=>?_,fun y hy=>?_,fun y c _ h=>?_,fun _=>hd,Around.frames_deeper e0.frames,.inr ⟨rfl,rfl⟩,fun b z=>absurd z (noA b),e0.bs,e0.bsz,fun b _ _=>noA b,fun b z=>absurd z (noA b),e0.funs,e0.frf⟩,
  rfl,e0.bare,Un.kept hk,⟨_,x.toInCall.ns,fun i y v h1 h2 h3=>?_⟩,fun y c h=>⟨_,x.cell y c h⟩,e0.hok.fresh (Nat.le_refl _),fun y c h=>?_,fun p hp=>absurd (show p∈([]:List (Addr×Obj)) from hp) (by simp),e0.hok.kept hk,?_⟩
 ·exact name_of_addr x.apart (PySem.mem_of_lookup h1) (PySem.mem_of_lookup h2)
 ·have hy:scope.names.lookup y=some .cell∨scope.names.lookup y=some .free:=hy
  rcases hy with hy|hy
  ·exact cell_has hy
  ·exact absurd rfl (S.nofree _ (PySem.mem_of_lookup hy))
 ·exact Nat.le_of_lt (x.above y c (PySem.mem_of_lookup h))
 ·have hi:i<vs.length:=by
   unfold start at h2
   by_cases hi:i<vs.length
   ·exact hi
   ·rw [List.getElem?_append_right (by simpa using hi)] at h2
    rw [List.getElem?_replicate] at h2
    split at h2 <;> cases h2
  have ha:vs[i]?=some v:=by
   unfold start at h2
   rw [List.getElem?_append_left (by simpa using hi),List.getElem?_map] at h2
   cases e:vs[i]? with
   |none=>rw [e] at h2;cases h2
   |some a=>rw [e] at h2;cases h2;rfl
  obtain ⟨u,hu,rv⟩:=r.get ha
  have hp:ps[i]?=some y:=by
   rw [← S.pre,List.getElem?_take_of_lt (by omega)];exact h1
  have ndP:ps.Nodup:=by rw [← S.pre];exact S.nd.sublist (List.take_sublist _ _)
  refine ⟨u,rv,?_⟩
  rcases S.par y (List.mem_of_getElem? hp) with k|k
  ·exact .inl ⟨k,bindL_get ndP hp hu k⟩
  ·obtain ⟨c,e⟩:=cell_has (n:=s.heap.objs.size+1) k
   refine .inr ⟨.inl k,c,e,?_⟩
   have q:=x.cell y c e
   rw [bindC_get ndP hp hu (by show scope.names.lookup y≠_;rw [k];decide)] at q
   exact q
 ·exact e0.hok.fresh (Nat.le_of_lt (x.above y c (PySem.mem_of_lookup h)))
 ·unfold start
  show _=N.length
  rw [List.length_append,List.length_map,List.length_replicate]
  omega
theorem fn_of {CX:CXT} {P:Program} {w:World} {K:PySem.W.Frag} {mg:Str->Option Value} {base:Heap} {k:Nat} {f:Addr} {name qual:Str} {params:Arguments} {body:List Stmt} {scope:Scope} {dV kV doc pm cdv ct oc:Value} {an od:Option Addr}
 {osl:Array (Option Value)} {N ps:List Str} {sp:Sp} (lk:K.lookup f=some ⟨oc,od,.func (PySem.W.fnOf name qual params body scope dV kV doc pm an cdv ct),osl⟩) (hcd:PySem.W.codeIn K cdv qual=true) (S:a77 N ps scope)
 (len:∀ vs H Q E,sp vs H Q E->vs.length=ps.length)
 (hbody:∀ (A:Around) (outer:List Env) (s:Shared) (H:Hp) (vs:List V) (Q:VK) (E:XK),Room k (A.deeper (envOfC qual scope s.heap.objs.size f cdv))->sp vs H Q E->
  ∃ t,PSs (cxOf CX P w K mg base N qual scope f cdv A outer s H E) body t/\t { nx:=fun _ H'=>Q .non H',rt:=Q } (start N vs) H) :
 FnOk P w K mg base CX (k+1) f (PySem.W.fnOf name qual params body scope dV kV doc pm an cdv ct) ps sp:=by
 refine ⟨len,fun A outer s H args us vs Q E hr e0 hb r hsp=>?_⟩
 have hl:=len _ _ _ _ hsp
 have KX:K.In s.heap:=e0.mod.kin.keeps fun b o e=>(e0.bs b o e).1
 have lim:s.heap.NoLimit:=e0.mod.nolimit.keeps fun b o e=>(e0.bs b o e).1
 have hkind:∀ y∈ps.zip us,scope.names.lookup y.1=some .local∨(scope.names.lookup y.1=some .cell/\((cellsFrom (s.heap.objs.size+1) scope.names []).lookup y.1).isSome=true):=fun ⟨n,v⟩ hy=>by
  rcases S.par n (List.of_mem_zip hy).1 with q|q
  ·exact .inl q
  ·exact .inr ⟨q,PySem.W.cellsFrom_some _ _ _ (.inl q)⟩
 refine codeAny_call_function hr.depth (KX _ _ lk) rfl S.co S.gen rfl (PySem.W.codeRec_of KX hcd) (hb _ _ _ _ ?_)
 refine wpAny_newFunctionEnv_cells S.kind hkind fun env he s1 x=>?_
 subst he
 refine ⟨lim.keeps x.toInCall.keep,codeAny_func ?_⟩
 obtain ⟨t,ht,hq⟩:=hbody A outer s H vs Q E (hr.deeper _) hsp
 have I:Inv (cxOf CX P w K mg base N qual scope f cdv A outer s H E) [] (start N vs) H s1:=inv_start S hr.hd e0 hl r x
 refine wpAny_mono (ht [] s1 (start N vs) H _ I hq) (fun fl s' hs=>?_) fun e s' hs=>hs
 have fin:∀ {σ':St} {H':Hp} {v:V} {u:Value},Inv (cxOf CX P w K mg base N qual scope f cdv A outer s H E) [] σ' H' s'->RelV v u->Q v H'->CE outer P w H s Q u s':=
  fun {σ' H' v u} J rv q=>⟨v,H',J.os,J.bare,J.base,J.hok,rv,q⟩
 cases fl with
 | ret u=>
   obtain ⟨v,σ',H',J,rv,q⟩:=hs
   exact fin J rv q
 | next=>
   obtain ⟨σ',H',J,q⟩:=hs
   exact fin (v:=V.non) (u:=Value.none) J rfl q
 | brk=>
   obtain ⟨_,_,_,q⟩:=hs
   exact False.elim q
 | cont=>
   obtain ⟨_,_,_,q⟩:=hs
   exact False.elim q
section
variable {X:Cx} {x:Str} {p pos:Pos} {e:Expr} {es:List Expr} {t:TA} {id T:String} {r:List V->Hp->VK->Prop}
def tCB (r:List V->Hp->VK->Prop) (t:TA):TE:=fun σ H Q=>t σ H fun vs H1=>r vs H1 Q
theorem a08 (hc:ag5 X (.builtin id) r) (hg:Gl X x) (hm:X.mg x=none) (hv:bootBuiltins x=some (.builtin id)) (ha:PA X (e::es) t) (hn:x ≠ "__name__":=by decide) (hdb:(x == ("__debug__" : Str))=false:=by decide)
 (he:starEach (e::es) X.env=(false,eval e X.env)::starEach es X.env:=by rfl) (hpl:(backTo pos (starEach es X.env)).any (·.1)=false:=by rfl):PE X (.Call (.Name x p) (e::es) [] pos) (tCB r t):=by
 intro pins s σ H Q I h
 refine wpAny_Call_Name_kw (ak4 I hg hm hv ?_ hn hdb)
 exact PyProof.Rows.callWith_builtin1 (thn (ha pos pins s σ H _ I h) fun us s1 ⟨vs,H1,I1,r1,q1⟩=>hc pins s1 σ H1 vs us Q I1 r1 q1) he hpl
theorem ac0 (hc:ag5 X (.type T) r) (hg:Gl X x) (hm:X.mg x=none) (hv:bootBuiltins x=some (.type T)) (ha:PA X (e::es) t) (hn:x ≠ "__name__":=by decide) (hdb:(x == ("__debug__" : Str))=false:=by decide)
 (he:starEach (e::es) X.env=(false,eval e X.env)::starEach es X.env:=by rfl) (hpl:(backTo pos (starEach es X.env)).any (·.1)=false:=by rfl):PE X (.Call (.Name x p) (e::es) [] pos) (tCB r t):=by
 intro pins s σ H Q I h
 refine wpAny_Call_Name_kw (ak4 I hg hm hv ?_ hn hdb)
 exact PyProof.Rows.callWith_type1 (thn (ha pos pins s σ H _ I h) fun us s1 ⟨vs,H1,I1,r1,q1⟩=>hc pins s1 σ H1 vs us Q I1 r1 q1) he hpl
end
end L2
namespace HT
open PySem PyProof.Rows
section
open PySem.SeqAt
open PySem.AutoSeq1 (wpAny_loadPart')
open PySem.MeetsSeq PySem.MeetsSeq2 PySem.MeetsSeq3
end
section
variable {prog:Program} {w:World} {A:Around} {E:Value->Shared->Prop} {s:Shared}
theorem cat_tup {t b:Addr} {vs ws:List Value} {Q:Value->Shared->Prop} (ht:IsTup s.heap t vs.toArray) (hb:IsTup s.heap b ws.toArray) (hv:vs≠[])
 (h1:ws=[]->Q (.ref t) s) (h2:ws≠[]->Q (.ref s.heap.objs.size) { s with heap:=s.heap.push { cls:=.type "tuple",data:=.seq (vs++ws).toArray } })
 (hsz:vs.length+ws.length≤sizeLine):wpAny (model prog w) A (binaryOp .Add (.ref t) (.ref b)) Q E s:=by
 obtain ⟨⟨cls,dd,data,sl⟩,ho,hc,n,hd⟩:=id ht
 obtain ⟨⟨cls2,dd2,data2,sl2⟩,ho2,hc2,n2,hd2⟩:=id hb
 simp only at hc hd hc2 hd2
 subst hc hd hc2 hd2
 have e:vs.toArray++ws.toArray=(vs++ws).toArray:=by simp
 by_cases hw:ws=[]
 ·exact concat_meets ⟨_,ho,rfl⟩ ⟨_,ho2,rfl⟩ noFill_tuple_add seq_tuple_add PySem.F.slot_tuple_add PySem.F.entry_tuple_add (PySem.F.args_tuple_add_2 _ _)
   (tuple_addW1 t b vs.toArray ws.toArray n n2 dd dd2 sl sl2 (by simpa using hv) (by simp [hw])) ⟨ho,ho2,h1 hw⟩
 ·refine concat_meets ⟨_,ho,rfl⟩ ⟨_,ho2,rfl⟩ noFill_tuple_add seq_tuple_add PySem.F.slot_tuple_add PySem.F.entry_tuple_add (PySem.F.args_tuple_add_2 _ _)
   (tuple_addW2 t b vs.toArray ws.toArray n n2 dd dd2 sl sl2 (by simpa using hv) (by simpa using hw) (by rw [List.size_toArray,List.size_toArray];exact hsz)) ⟨ho,ho2,?_⟩
  rw [e]
  exact h2 hw
def sIx (n d:Nat):Option Int->Nat
 |none=>d
 |some v=>if v<0 then (v+(n:Int)).toNat else min v.toNat n
theorem am1 (n d:Nat):sIx n d none=d:=rfl
theorem sIx_nat (n d k:Nat):sIx n d (some (k:Int))=min k n:=by
 show (if (k:Int)<0 then ((k:Int)+(n:Int)).toNat else min (k:Int).toNat n)=min k n
 rw [if_neg (by omega),Int.toNat_natCast]
theorem sIx_le (n d:Nat) (hd:d≤n) (o:Option Int):sIx n d o≤n:=by
 cases o with
 |none=>exact hd
 | some v=>
   show (if v<0 then (v+(n:Int)).toNat else min v.toNat n)≤n
   by_cases hv:v<0
   ·rw [if_pos hv];omega
   ·rw [if_neg hv];exact Nat.min_le_right _ _
theorem clip_eq (v:Int) (n d:Nat):(if v<0 then max (v+(n:Int)) 0 else min v (n:Int))=((sIx n d (some v):Nat):Int):=by
 show (if v<0 then max (v+(n:Int)) 0 else min v (n:Int))=(((if v<0 then (v+(n:Int)).toNat else min v.toNat n):Nat):Int)
 by_cases hv:v<0
 ·simp only [if_pos hv];omega
 ·simp only [if_neg hv];omega
theorem adjust_gen (lo hi:Option Int) (n:Nat):Builtin.Slice.sliceAdjust lo hi 1 (n:Int)=(((sIx n 0 lo:Nat):Int),((sIx n n hi:Nat):Int)):=by
 have h1:¬ ((1:Int)<0):=by omega
 unfold Builtin.Slice.sliceAdjust
 simp only [h1,if_false]
 refine Prod.ext ?_ ?_
 ·cases lo with
  |none=>rfl
  |some v=>exact clip_eq v n 0
 ·cases hi with
  |none=>rfl
  |some v=>exact clip_eq v n n
theorem places_gen (i j:Nat):Builtin.Slice.slicePlaces (i:Int) (j:Int) 1=j-i:=by
 unfold Builtin.Slice.slicePlaces
 have h1:(1:Int) > 0:=by omega
 simp only [h1,if_true,Int.ediv_one]
 split <;> omega
theorem ap9 {v:Value} {o:Option Int} {Q:Option Int->Shared->Prop} (p:IsPart v o) (h:Q o s):wpAny (model prog w) A (Builtin.Slice.slicePartIndex v) Q E s:=by
 cases p with
 |none=>exact slicePart_none h
 |int i t=>exact slicePart_int h
theorem af5 {sl:Addr} {vl vu:Value} {lo hi:Option Int} {n:Nat} {Q:Int×Int×Nat->Shared->Prop} (hs:s.heap.IsSliceOf sl vl vu .none) (pl:IsPart vl lo) (pu:IsPart vu hi)
 (h:Q (((sIx n 0 lo:Nat):Int),1,sIx n n hi-sIx n 0 lo) s):wpAny (model prog w) A (Builtin.Slice.sliceApplied (.ref sl) (pure (n:Int))) Q E s:=by
 obtain ⟨os,hos,hcs,hds⟩:=id hs
 unfold Builtin.Slice.sliceApplied Builtin.Slice.sliceFields
 refine wpAny_bind (wpAny_bind (wpAny_field hos hds (x:=vl) rfl (wpAny_bind (wpAny_field hos hds (x:=vu) rfl (wpAny_bind (wpAny_field hos hds (x:=.none) rfl (wpAny_pure ?_)))))))
 refine wpAny_bind (slicePart_none ?_)
 show wpAny _ _ (if ((1:Int) == 0)=true then _ else _) _ _ s
 rw [if_neg (by decide)]
 refine wpAny_bind (ap9 pl (wpAny_bind (ap9 pu (wpAny_bind (wpAny_pure ?_)))))
 show wpAny _ _ (match Builtin.Slice.sliceAdjust lo hi 1 (n:Int) with|(lo,hi)=>pure (lo,(1:Int),Builtin.Slice.slicePlaces lo hi 1)) _ _ s
 rw [adjust_gen lo hi n]
 show wpAny _ _ (pure (((sIx n 0 lo:Nat):Int),(1:Int),Builtin.Slice.slicePlaces ((sIx n 0 lo:Nat):Int) ((sIx n n hi:Nat):Int) 1)) _ _ s
 rw [places_gen]
 exact wpAny_pure h
theorem pick_gen (xs:Array Value) (i k:Nat):((List.range k).filterMap fun (m:Nat)=>xs[((i:Int)+(m:Int)*1).toNat]?).toArray=((xs.toList.drop i).take k).toArray:=by
 have e:(fun (m:Nat)=>xs[((i:Int)+(m:Int)*1).toNat]?)=fun m=>xs[i+m]?:=by
  funext m
  have:((i:Int)+(m:Int)*1).toNat=i+m:=by omega
  rw [this]
 rw [e]
 have:=pick_run xs i k
 rw [List.filterMap_map] at this
 have e2:((fun x=>xs[x]?) ∘ fun x=>i+x)=fun m=>xs[i+m]?:=rfl
 rw [e2] at this
 rw [this]
theorem aj9 {t sl:Addr} {items:Array Value} {vl vu:Value} {lo hi:Option Int} {Q:Value->Shared->Prop} (ht:IsTup s.heap t items) (hs:s.heap.IsSliceOf sl vl vu .none) (pl:IsPart vl lo) (pu:IsPart vu hi)
 (hw:¬ (sIx items.size 0 lo=0/\sIx items.size items.size hi=items.size))
 (h:Q (.ref s.heap.objs.size) { s with heap:=s.heap.push { cls:=.type "tuple",data:=.seq ((items.toList.drop (sIx items.size 0 lo)).take (sIx items.size items.size hi-sIx items.size 0 lo)).toArray } })
 (hsz:items.size≤sizeLine):wpAny (model prog w) A (getItem (.ref t) (.ref sl)) Q E s:=by
 have htake:sizeOk (.seq ((items.toList.drop (sIx items.size 0 lo)).take (sIx items.size items.size hi-sIx items.size 0 lo)).toArray):=by
  show ((items.toList.drop (sIx items.size 0 lo)).take (sIx items.size items.size hi-sIx items.size 0 lo)).toArray.size≤sizeLine
  rw [List.size_toArray,List.length_take,List.length_drop,Array.length_toList]
  omega
 have hj:sIx items.size items.size hi≤items.size:=sIx_le _ _ (Nat.le_refl _) hi
 obtain ⟨os,hos,hcs,hds⟩:=id hs
 have hTs:s.TypeIs (.ref sl) "slice":=⟨os,hos,hcs⟩
 unfold getItem
 try with_reducible refine wpAny_holding ?_
 first|refine wpAny_bind (wpAny_pure ?_)|skip
 refine wpAny_bind (wpAny_sequenceKey ht.typeIs (by decide) ?_)
 refine wpAny_bind (wpAny_callSpecial?_slot (name:=Str.ofString "__getitem__") ht.typeIs PyProof.Rows.slot_tuple_getitem
  (wpAny_call_entry PyProof.Rows.slot_tuple_getitem ht.typeIs entry_tuple_getitem ?_ (args_tuple_getitem _ _)))
 show wpAny _ _ (Builtin.Tuple.tupleItemsOf (.ref t) >>= _) _ _ s
 refine wpAny_bind (tupleItemsOf_ ht ?_)
 refine wpAny_bind (wpAny_typeOf hTs ?_)
 rw [if_pos (by decide)]
 refine wpAny_bind (af5 hs pl pu ?_)
 have hno:¬ ((((sIx items.size 0 lo:Nat):Int) == 0 && (1:Int) == 1 && (sIx items.size items.size hi-sIx items.size 0 lo) == items.size)=true):=by
  intro q
  rw [Bool.and_eq_true,Bool.and_eq_true] at q
  have q1:((sIx items.size 0 lo:Nat):Int)=0:=eq_of_beq q.1.1
  have q2:sIx items.size items.size hi-sIx items.size 0 lo=items.size:=eq_of_beq q.2
  exact hw ⟨by omega,by omega⟩
 show wpAny _ _ (if (((sIx items.size 0 lo:Nat):Int) == 0 && (1:Int) == 1 && (sIx items.size items.size hi-sIx items.size 0 lo) == items.size)=true then _ else _) _ _ s
 rw [if_neg hno,pick_gen]
 first
  |exact wpAny_bind (m:=Builtin.Tuple.tupleExact _) (wpAny_newObj_type (wpAny_pure ⟨_,rfl,wpAny_pure h⟩) htake)
  |exact wpAny_bind (m:=Builtin.Tuple.tupleExact _) (wpAny_newObj_type (wpAny_bind (wpAny_pure (wpAny_pure ⟨_,rfl,wpAny_pure h⟩))) htake)
  |exact wpAny_bind (wpAny_bind (m:=Builtin.Tuple.tupleExact _) (wpAny_newObj_type (wpAny_pure (wpAny_pure ⟨_,rfl,wpAny_pure h⟩)) htake))
  |exact wpAny_bind (wpAny_bind (m:=Builtin.Tuple.tupleExact _) (wpAny_newObj_type (wpAny_pure ⟨_,rfl,wpAny_pure h⟩) htake))
end
end HT
namespace L2
open PySem PySem.Spec PyProof.Rows
abbrev TO:=St->Hp->(Option Int->Hp->Prop)->Prop
def PO (X:Cx) (e:Option Expr) (t:TO):Prop:=
 ∀ (pins:List (Addr×Obj)) (s:Shared) (σ:St) (H:Hp) (Q:Option Int->Hp->Prop),Inv X pins σ H s->t σ H Q->
   wpAny (model X.prog X.w) X.A (evalPart e X.env) (fun u s'=>∃ o H',Inv X pins σ H' s'/\IsPart u o/\Q o H') X.xe s
def as6:TO:=fun _ H Q=>Q none H
def tPart (t:TE):TO:=fun σ H Q=>t σ H fun x H1=>∃ i,x=.int i/\Q (some i) H1
section
variable {X:Cx} {e:Expr} {te:TE} {lo hi:Option Expr} {tl th:TO} {pos p2:Pos}
theorem ab1:PO X none as6:=by
 intro pins s σ H Q I h
 rw [evalPart_none]
 exact wpAny_pure ⟨none,H,I,.none,h⟩
theorem ab2 (h:PE X e te):PO X (some e) (tPart te):=by
 intro pins s σ H Q I hw
 rw [evalPart_some]
 refine thn (h pins s σ H _ I hw) fun u s1 ⟨x,H1,I1,r1,q1⟩=>?_
 obtain ⟨i,rfl,q⟩:=q1
 obtain ⟨t,rfl⟩:=r1
 exact ⟨some i,H1,I1,.int i t,q⟩
def SlR (X:Cx) (r:V->Option Int->Option Int->Hp->VK->Prop):Prop:=
 ∀ (pins:List (Addr×Obj)) (s:Shared) (σ:St) (H:Hp) (x:V) (v vl vu:Value) (lo hi:Option Int) (sl:Addr) (Q:VK),Inv X pins σ H s->RelV x v->s.heap.IsSliceOf sl vl vu .none->IsPart vl lo->IsPart vu hi->r x lo hi H Q->
   ∃ T id,typeLookup (.type T) "__getitem__" = pure (some (.builtin id))/\s.TypeIs v T/\wpAny (model X.prog X.w) X.A (getItem v (.ref sl)) (EP X pins σ Q) X.xe s
def tSl (r:V->Option Int->Option Int->Hp->VK->Prop) (te:TE) (tl th:TO):TE:=fun σ H Q=>te σ H fun x H1=>tl σ H1 fun l H2=>th σ H2 fun u H3=>r x l u H3 Q
theorem aa0 {r:V->Option Int->Option Int->Hp->VK->Prop} (hr:SlR X r) (he:PE X e te) (hl:PO X lo tl) (hu:PO X hi th):PE X (.Subscript e (.Slice lo hi none p2) pos) (tSl r te tl th):=by
 intro pins s σ H Q I h
 refine Subscript_ (thn (he pins s σ H _ I h) fun v s1 ⟨x,H1,I1,r1,q1⟩=>?_)
 refine wpAny_Slice (thn (hl pins s1 σ H1 _ I1 q1) fun vl s2 ⟨l,H2,I2,pl,q2⟩=>thn (hu pins s2 σ H2 _ I2 q2) fun vu s3 ⟨u,H3,I3,pu,q3⟩=>?_)
 rw [evalPart_none]
 refine wpAny_pure ?_
 have I4:Inv X pins σ H3 { s3 with heap:=s3.heap.push { cls:=.type "slice",data:=.fields #[vl,vu,.none] } }:=I3.kept (t':=s3.toks) fun b ob q=>Heap.get?_push_of_some _ q
 obtain ⟨T,id,hT,ht,hg⟩:=hr pins { s3 with heap:=s3.heap.push { cls:=.type "slice",data:=.fields #[vl,vu,.none] } } σ H3 x v vl vu l u s3.heap.objs.size Q I4 r1 (Heap.IsSliceOf.new ..) pl pu q3
 show wpAny (model X.prog X.w) X.A (subscriptTail e (.Slice lo hi none p2) v (.ref s3.heap.objs.size)) (EP X pins σ Q) X.xe { s3 with heap:=s3.heap.push { cls:=.type "slice",data:=.fields #[vl,vu,.none] } }
 exact tail_any (ops:=[.ref s3.heap.objs.size,v]) ht hT hg (by with_unfolding_all rfl)
def cutV (xs:List V) (lo hi:Option Int):List V:=(xs.drop (HT.sIx xs.length 0 lo)).take (HT.sIx xs.length xs.length hi-HT.sIx xs.length 0 lo)
theorem an2 (xs:List V) (lo hi:Option Int):(cutV xs lo hi).length≤xs.length:=by
 unfold cutV
 rw [List.length_take,List.length_drop]
 omega
def rSlT (K:PySem.W.Frag):V->Option Int->Option Int->Hp->VK->Prop:=fun x lo hi H Q=>∃ a xs,x=.ref a/\SqT K H a xs/\
 ¬ (HT.sIx xs.length 0 lo=0/\HT.sIx xs.length xs.length hi=xs.length)/\∀ p,H p=none->Q (.ref p) (upd H p (.tup (cutV xs lo hi)))
theorem sl_tup:SlR X (rSlT X.K):=by
 intro pins s σ H x v vl vu lo hi sl Q I rx hs pl pu h
 obtain ⟨a,xs,rfl,hx,hw,q⟩:=h
 cases rx
 obtain ⟨its,r,ht,hz⟩:=I.tuple hx
 have hlen:its.toArray.size=xs.length:=by rw [List.size_toArray];exact r.length.symm
 refine ⟨"tuple",_,PyProof.Rows.slot_tuple_getitem.lookup,ht.typeIs,?_⟩
 refine HT.aj9 ht hs pl pu (by rw [hlen];exact hw) ?_ (by rw [hlen];exact hz)
 rw [hlen]
 refine ⟨.ref s.heap.objs.size,_,I.laid (t':=s.toks) (o:=.tup (cutV xs lo hi)) (fun b ob q=>Heap.get?_push_of_some _ q) (Nat.le_refl _) ?_,rfl,q _ (I.hok.fresh (Nat.le_refl _))⟩
 exact ⟨Nat.le_trans (an2 xs lo hi) hz,_,(r.drop (HT.sIx xs.length 0 lo)).take (HT.sIx xs.length xs.length hi-HT.sIx xs.length 0 lo),IsTup.new _ _⟩
def rCatT (K:PySem.W.Frag):R2:=fun x y H Q=>∃ a b xs ys,x=.ref a/\y=.ref b/\SqT K H a xs/\SqT K H b ys/\xs≠[]/\xs.length+ys.length≤sizeLine/\
 (ys=[]->Q (.ref a) H)/\(ys≠[]->∀ p,H p=none->Q (.ref p) (upd H p (.tup (xs++ys))))
theorem Vals.nil_iff {xs:List V} {us:List Value} (r:Vals xs us):us=[]↔xs=[]:=by
 cases r with
 |nil=>simp
 |cons _ _=>simp
theorem op_catT:OpR X (binaryOp .Add) (rCatT X.K):=by
 intro pins s σ H x y v u Q I rx ry h
 obtain ⟨a,b,xs,ys,rfl,rfl,ha,hb,hx,hz,q1,q2⟩:=h
 cases rx
 cases ry
 obtain ⟨its,r1,p1,_⟩:=I.tuple ha
 obtain ⟨its2,r2,p2,_⟩:=I.tuple hb
 refine HT.cat_tup p1 p2 (fun z=>hx (r1.nil_iff.mp z)) (fun z=>⟨.ref a,H,I,rfl,q1 (r2.nil_iff.mp z)⟩) (fun z=>?_) (by rw [← r1.length,← r2.length];exact hz)
 refine ⟨.ref s.heap.objs.size,_,I.laid (t':=s.toks) (o:=.tup (xs++ys)) (fun b ob q=>Heap.get?_push_of_some _ q) (Nat.le_refl _) ?_,rfl,q2 (fun w=>z (r2.nil_iff.mpr w)) _ (I.hok.fresh (Nat.le_refl _))⟩
 exact ⟨by rw [List.length_append];exact hz,_,r1.append r2,IsTup.new _ _⟩
end
def ixN (n:Nat) (i:Int):Option Nat:=if 0≤i then (if i<n then some i.toNat else none) else if -(n:Int)≤i then some (i+n).toNat else none
def atI {α:Type} (xs:List α) (i:Int):Option α:=(ixN xs.length i).bind fun j=>xs[j]?
theorem ixN_seq {n:Nat} {i:Int} {j:Nat} (h:ixN n i=some j):seqIndex? i n=some j/\j<n/\-(n:Int)≤i/\i<n:=by
 unfold ixN at h
 by_cases h0:0≤i
 ·rw [if_pos h0] at h
  by_cases h1:i<n
  ·rw [if_pos h1] at h
   have e:i.toNat=j:=Option.some.inj h
   exact ⟨by rw [seqIndex_of h0 h1,e],by omega,by omega,h1⟩
  ·rw [if_neg h1] at h;cases h
 ·rw [if_neg h0] at h
  by_cases h1:-(n:Int)≤i
  ·rw [if_pos h1] at h
   have e:(i+n).toNat=j:=Option.some.inj h
   exact ⟨by rw [seqIndex_neg (by omega) h1,e],by omega,h1,by omega⟩
  ·rw [if_neg h1] at h;cases h
theorem atI_get {α:Type} {xs:List α} {i:Int} {v:α} (h:atI xs i=some v):∃ j,seqIndex? i xs.length=some j/\xs[j]?=some v/\j<xs.length/\-(xs.length:Int)≤i/\i<xs.length:=by
 unfold atI at h
 cases e:ixN xs.length i with
 |none=>rw [e] at h;cases h
 | some j=>
   rw [e] at h
   obtain ⟨h1,h2,h3,h4⟩:=ixN_seq e
   exact ⟨j,h1,h,h2,h3,h4⟩
theorem a09 {α:Type} {xs:List α} {j:Nat} {v:α} (h:xs[j]?=some v):atI xs (j:Int)=some v:=by
 have hj:j<xs.length:=(List.getElem?_eq_some_iff.mp h).1
 have e:ixN xs.length (j:Int)=some j:=by
  unfold ixN
  rw [if_pos (by omega),if_pos (by omega)];simp
 unfold atI;rw [e];exact h
def PlainIx (b:Expr):Prop:=∀ o i,subscripted b false o i=operate [o,i] (getItem o i)
def IxR (X:Cx) (r:R2):Prop:=
 ∀ (value slice:Expr) (pins:List (Addr×Obj)) (s:Shared) (σ:St) (H:Hp) (x y:V) (v u:Value) (Q:VK),Inv X pins σ H s->RelV x v->RelV y u->r x y H Q->
   subscripted slice false v u=operate [v,u] (getItem v u)->wpAny (model X.prog X.w) X.A (subscriptTail value slice v u) (EP X pins σ Q) X.xe s
def MtR (X:Cx) (id:String) (r:V->List V->Hp->VK->Prop):Prop:=
 ∀ (pins:List (Addr×Obj)) (s:Shared) (σ:St) (H:Hp) (x:V) (xs:List V) (v:Value) (us:List Value) (Q:VK),Inv X pins σ H s->RelV x v->Vals xs us->r x xs H Q->
   wpAny (model X.prog X.w) X.A (call (.builtin id) (v::us)) (EP X pins σ Q) X.xe s
section
variable {X:Cx} {a b:Expr} {ta tb:TE} {pos:Pos}
theorem IxR.or {r r':R2} (h:IxR X r) (h':IxR X r'):IxR X (fun x y H Q=>r x y H Q∨r' x y H Q):=by
 intro value slice pins s σ H x y v u Q I rx ry q hs
 rcases q with q|q
 ·exact h value slice pins s σ H x y v u Q I rx ry q hs
 ·exact h' value slice pins s σ H x y v u Q I rx ry q hs
theorem a80 {r:R2} (hr:IxR X r) (ha:PE X a ta) (hb:PE X b tb) (hs:PlainIx b):PE X (.Subscript a b pos) (tOp r ta tb):=by
 intro pins s σ H Q I h
 exact Subscript_ (binT ha hb I h fun v u s2 x y H2 I2 rx ry q=>hr a b pins s2 σ H2 x y v u Q I2 rx ry q (hs _ _))
def rIxL (K:PySem.W.Frag):R2:=fun x y H Q=>∃ p xs i v,x=.ref p/\y=.int i/\SqL K H p xs/\atI xs i=some v/\Q v H
def rIxT (K:PySem.W.Frag):R2:=fun x y H Q=>∃ p xs i v,x=.ref p/\y=.int i/\SqT K H p xs/\atI xs i=some v/\Q v H
def rIxS:R2:=fun x y H Q=>∃ z i c,x=.str z/\y=.int i/\z.length≤sizeLine/\atI z.cps.toList i=some c/\Q (.str ⟨#[c]⟩) H
theorem ac6:IxR X (rIxL X.K):=by
 intro value slice pins s σ H x y v u Q I rx ry h hs
 obtain ⟨p,xs,i,z,rfl,rfl,hq,he,q⟩:=h
 cases rx
 obtain ⟨t,rfl⟩:=ry
 obtain ⟨its,r,pl,hz⟩:=I.list hq
 obtain ⟨j,h1,h2,h3,h4,h5⟩:=atI_get he
 obtain ⟨w,ew,rw'⟩:=r.get h2
 have hl:=r.length
 have hn:=aq5
 have fin:EP X pins σ Q w s:=⟨z,H,I,rw',q⟩
 by_cases h0:0≤i
 ·have hj:i.toNat=j:=by
   rw [seqIndex_of h0 h5] at h1
   exact Option.some.inj h1
  exact item_listR pl.isList h0 (by omega) (by rw [hj];simpa using ew) fin hs
 ·have hj:(i+(its.toArray.size:Int)).toNat=j:=by
   rw [seqIndex_neg (by omega) h4] at h1
   rw [List.size_toArray,← hl]
   exact Option.some.inj h1
  exact subscriptTail_builtinR (x:=w) pl.isList.typeIs slot_list_getitem.lookup
   (wpAny_getItem_list_neg (Q:=fun r s'=>r=w/\EP X pins σ Q r s') pl.isList (by omega) (by rw [List.size_toArray] <;> omega) (by omega) (by rw [hj];simpa using ew) ⟨rfl,fin⟩) hs
theorem a78:IxR X (rIxT X.K):=by
 intro value slice pins s σ H x y v u Q I rx ry h hs
 obtain ⟨p,xs,i,z,rfl,rfl,hq,he,q⟩:=h
 cases rx
 obtain ⟨t,rfl⟩:=ry
 obtain ⟨its,r,pl,hz⟩:=I.tuple hq
 obtain ⟨j,h1,h2,h3,h4,h5⟩:=atI_get he
 obtain ⟨w,ew,rw'⟩:=r.get h2
 have hl:=r.length
 have hn:=aq5
 have fin:EP X pins σ Q w s:=⟨z,H,I,rw',q⟩
 exact subscriptTail_builtinR (x:=w) pl.typeIs slot_tuple_getitem.lookup
  (getItem_tuple (j:=j) (Q:=fun r s'=>r=w/\EP X pins σ Q r s') pl (by omega) (by omega) (by rw [List.size_toArray,← hl];exact h1) (by simpa using ew) ⟨rfl,fin⟩) hs
theorem ix_str:IxR X rIxS:=by
 intro value slice pins s σ H x y v u Q I rx ry h hs
 obtain ⟨z,i,c,rfl,rfl,hz,he,q⟩:=h
 obtain ⟨t,rfl⟩:=rx
 obtain ⟨t',rfl⟩:=ry
 obtain ⟨j,h1,h2,h3,h4,h5⟩:=atI_get he
 have hl:z.cps.toList.length=z.length:=by simp [Str.length]
 rw [hl] at h1 h4 h5
 have hn:=aq5
 exact tail_any (typeIs_str s z t) slot_str_getitem.lookup (getItem_str (c:=c) (by
  have e1:decide (i < -(2 ^ 63:Int))=false:=decide_eq_false (by omega)
  have e2:decide (i ≥ 2 ^ 63)=false:=decide_eq_false (by omega)
  rw [e1,e2,Bool.or_false]) (by rw [h1];simpa using h2) ⟨.str ⟨#[c]⟩,H,I.tok _,⟨_,rfl⟩,q⟩) hs
def rIx (K:PySem.W.Frag):R2:=fun x y H Q=>rIxL K x y H Q∨rIxT K x y H Q∨rIxS x y H Q
theorem an5:IxR X (rIx X.K):=ac6.or (a78.or ix_str)
theorem mapSeq_set (its:List Value) (n j:Nat) (u:Value):Obj.mapSeq (·.setIfInBounds j u) { cls:=.type "list",data:=.seq its.toArray n }={ cls:=.type "list",data:=.seq (its.set j u).toArray n }:=by
 simp [Obj.mapSeq]
theorem Inv.lst {pins:List (Addr×Obj)} {σ:St} {H:Hp} {s:Shared} {p:Addr} {xs:List V} (I:Inv X pins σ H s) (h:H p=some (.lst xs)) :
 ∃ (its:List Value) (n:Nat),Vals xs its/\s.heap.get? p=some { cls:=.type "list",data:=.seq its.toArray n }/\xs.length≤sizeLine:=by
 obtain ⟨z,its,n,r,e⟩:=I.hok p _ h
 exact ⟨its,n,r,e,z⟩
theorem Inv.lstUpd {pins:List (Addr×Obj)} {σ:St} {H:Hp} {s:Shared} {p:Addr} {xs ys:List V} {its its':List Value} {n n':Nat} {f:Obj->Obj} (I:Inv X pins σ H s) (h:H p=some (.lst xs))
 (ho:s.heap.get? p=some { cls:=.type "list",data:=.seq its.toArray n }) (hf:f { cls:=.type "list",data:=.seq its.toArray n }={ cls:=.type "list",data:=.seq its'.toArray n' }) (r:Vals ys its') (hz:ys.length≤sizeLine) (t:Nat) :
 Inv X pins σ (upd H p (.lst ys)) { s with heap:=s.heap.update p f,toks:=t }:=by
 have e:(s.heap.update p f).get? p=some { cls:=.type "list",data:=.seq its'.toArray n' }:=by
  rw [Heap.get?_update_self f ho (by rw [hf] <;> rfl),hf]
 refine I.write (x:=p) (e:=p) (by rw [h];trivial) (.inl rfl) (fun b u hb q=>(Heap.get?_update_other _ _ (Ne.symm hb)).trans q) ⟨_,e⟩ ?_
 exact ⟨hz,its',n',r,e⟩
def rSetL:V->V->V->Hp->(Hp->Prop)->Prop:=fun o i v H Q=>∃ p xs k j,o=.ref p/\i=.int k/\H p=some (.lst xs)/\ixN xs.length k=some j/\Q (upd H p (.lst (xs.set j v)))
theorem set_list:PSet X rSetL:=by
 intro pins s σ H o i v ov iv u Q I ro ri rv h
 obtain ⟨p,xs,k,j,rfl,rfl,hp,hj,q⟩:=h
 cases ro
 obtain ⟨t,rfl⟩:=ri
 obtain ⟨its,n,r,ho,hz⟩:=I.lst hp
 obtain ⟨h1,h2,h3,h4⟩:=ixN_seq hj
 have hl:=r.length
 have hn:=aq5
 have I':Inv X pins σ (upd H p (.lst (xs.set j v))) { s with heap:=s.heap.update p (Obj.mapSeq (·.setIfInBounds j u)) }:=
  I.lstUpd hp ho (mapSeq_set its n j u) (r.set rv j) (by rw [List.length_set];exact hz) s.toks
 by_cases h0:0≤k
 ·have hk:k.toNat=j:=by
   rw [seqIndex_of h0 h4] at h1
   exact Option.some.inj h1
  exact PySem.W.ki_setAt ho h0 (by omega) (by rw [List.size_toArray,← hl];exact h4) (by rw [hk];exact ⟨_,I',q⟩)
 ·have hk:(k+(its.toArray.size:Int)).toNat=j:=by
   rw [seqIndex_neg (by omega) h3] at h1
   rw [List.size_toArray,← hl]
   exact Option.some.inj h1
  exact PySem.W.ki_setBack ho (by omega) (by rw [List.size_toArray,← hl];exact h3) (by omega) (by rw [hk];exact ⟨_,I',q⟩)
theorem slice_bounds (lo hi:Option Int) (n:Nat):(sliceBounds lo hi none n).1=((HT.sIx n 0 lo:Nat):Int)/\(sliceBounds lo hi none n).2.1=((HT.sIx n n hi:Nat):Int)/\(sliceBounds lo hi none n).2.2=1:=by
 refine ⟨?_,?_,rfl⟩
 ·cases lo with
  |none=>simp [sliceBounds,HT.sIx]
  | some i=>
    simp only [sliceBounds,HT.sIx,Option.getD_none,show (1:Int) > 0 by decide,if_true]
    by_cases h:i<0
    ·simp only [h,if_true] <;> omega
    ·simp only [h,if_false] <;> omega
 ·cases hi with
  |none=>simp [sliceBounds,HT.sIx]
  | some i=>
    simp only [sliceBounds,HT.sIx,Option.getD_none,show (1:Int) > 0 by decide,if_true]
    by_cases h:i<0
    ·simp only [h,if_true] <;> omega
    ·simp only [h,if_false] <;> omega
theorem as7 (its:List Value) (lo hi:Option Int):slicePick its.toArray lo hi none=((its.drop (HT.sIx its.length 0 lo)).take (HT.sIx its.length its.length hi-HT.sIx its.length 0 lo)).toArray:=by
 obtain ⟨h1,h2,h3⟩:=slice_bounds lo hi its.toArray.size
 unfold slicePick
 rw [h1,h2,h3]
 simp only [sliceRange_one,pick_run,List.size_toArray] <;> rfl
def rSlL (K:PySem.W.Frag):V->Option Int->Option Int->Hp->VK->Prop:=fun x lo hi H Q=>∃ a xs,x=.ref a/\SqL K H a xs/\∀ p,H p=none->Q (.ref p) (upd H p (.lst (cutV xs lo hi)))
theorem sl_list:SlR X (rSlL X.K):=by
 intro pins s σ H x v vl vu lo hi sl Q I rx hs pl pu h
 obtain ⟨a,xs,rfl,hx,q⟩:=h
 cases rx
 obtain ⟨its,r,ht,hz⟩:=I.list hx
 have hlen:=r.length
 refine ⟨"list",_,slot_list_getitem.lookup,ht.isList.typeIs,?_⟩
 refine wpAny_getItem_list_slice ht.isList hs pl pu .none (by simp) ?_ (by rw [List.size_toArray] <;> omega)
 rw [as7,← hlen]
 refine ⟨.ref s.heap.objs.size,_,I.laid (t':=s.toks) (o:=.lst (cutV xs lo hi)) (fun b ob q=>Heap.get?_push_of_some _ q) (Nat.le_refl _) ?_,rfl,q _ (I.hok.fresh (Nat.le_refl _))⟩
 exact ⟨Nat.le_trans (an2 xs lo hi) hz,_,0,(r.drop (HT.sIx xs.length 0 lo)).take (HT.sIx xs.length xs.length hi-HT.sIx xs.length 0 lo),Heap.get?_push_size _ rfl⟩
def as9:V->Bool
 |.non=>true
 |.bl _=>true
 |.int _=>true
 |.str _=>true
 |_=>false
def eqV:V->V->Bool
 |.non,.non=>true
 |.bl a,.bl b=>a == b
 |.bl a,.int b=>(if a then 1 else 0) == b
 |.int a,.bl b=>a == (if b then 1 else 0)
 |.int a,.int b=>a == b
 |.str a,.str b=>a == b
 |_,_=>false
theorem eqAt_V {A:Around} {s:Shared} {y x:V} {u v:Value} (ry:RelV y u) (rx:RelV x v) (fy:as9 y=true) (fx:as9 x=true):SeqAt.EqAt A s u v (eqV y x):=by
 cases y with
 | non=>
   cases ry
   cases x with
   |non=>cases rx;exact SeqAt.EqAt.same _
   |bl b=>cases rx;exact SeqAt.EqAt.none_bool b
   |int b=>obtain ⟨t,rfl⟩:=rx;exact SeqAt.EqAt.none_int b t
   |str b=>obtain ⟨t,rfl⟩:=rx;exact SeqAt.EqAt.none_str b t
   |_=>exact absurd (show false=true from fx) Bool.false_ne_true
 | bl a=>
   cases ry
   cases x with
   |non=>cases rx;exact SeqAt.EqAt.bool_none a
   |bl b=>cases rx;exact SeqAt.EqAt.bool_bool a b
   |int b=>obtain ⟨t,rfl⟩:=rx;exact SeqAt.EqAt.bool_int a b t
   |str b=>obtain ⟨t,rfl⟩:=rx;exact SeqAt.EqAt.bool_str a b t
   |_=>exact absurd (show false=true from fx) Bool.false_ne_true
 | int a=>
   obtain ⟨t',rfl⟩:=ry
   cases x with
   |non=>cases rx;exact SeqAt.EqAt.int_none a t'
   |bl b=>cases rx;exact SeqAt.EqAt.int_bool a t' b
   |int b=>obtain ⟨t,rfl⟩:=rx;exact SeqAt.EqAt.int_int a t' b t
   |str b=>obtain ⟨t,rfl⟩:=rx;exact SeqAt.EqAt.int_str a t' b t
   |_=>exact absurd (show false=true from fx) Bool.false_ne_true
 | str a=>
   obtain ⟨t',rfl⟩:=ry
   cases x with
   |non=>cases rx;exact SeqAt.EqAt.str_none a t'
   |bl b=>cases rx;exact SeqAt.EqAt.str_bool a t' b
   |int b=>obtain ⟨t,rfl⟩:=rx;exact SeqAt.EqAt.str_int a t' b t
   |str b=>obtain ⟨t,rfl⟩:=rx;exact SeqAt.EqAt.str_str a t' b t
   |_=>exact absurd (show false=true from fx) Bool.false_ne_true
 |_=>exact absurd (show false=true from fy) Bool.false_ne_true
def eqU (x:V) (u:Value):Bool:=match u with
 |.none=>eqV .non x
 |.bool b=>eqV (.bl b) x
 |.int i _=>eqV (.int i) x
 |.str z _=>eqV (.str z) x
 |_=>false
theorem eqU_of {x y:V} {u:Value} (r:RelV y u) (f:as9 y=true):eqU x u=eqV y x:=by
 cases y with
 |non=>cases r;rfl
 |bl b=>cases r;rfl
 |int i=>obtain ⟨t,rfl⟩:=r;rfl
 |str z=>obtain ⟨t,rfl⟩:=r;rfl
 |_=>exact absurd (show false=true from f) Bool.false_ne_true
theorem an8 {x:V}:∀ {xs:List V} {us:List Value},Vals xs us->xs.all as9=true->us.any (eqU x)=xs.any fun y=>eqV y x
 |_,_,.nil,_=>rfl
 | y::xs,u::us,.cons r t,f=>by
   rw [List.all_cons,Bool.and_eq_true] at f
   rw [List.any_cons,List.any_cons,eqU_of r f.1,an8 t f.2]
theorem ai4 {A:Around} {s:Shared} {x:V} {v:Value} (rx:RelV x v) (fx:as9 x=true):∀ {xs:List V} {us:List Value},Vals xs us->xs.all as9=true->∀ u∈us,SeqAt.EqAt A s u v (eqU x u)
 |_,_,.nil,_=>fun u hu=>by cases hu
 | y::xs,u::us,.cons r t,f=>fun u' hu=>by
   rw [List.all_cons,Bool.and_eq_true] at f
   rcases List.mem_cons.mp hu with rfl|hu
   ·rw [eqU_of r f.1];exact eqAt_V r rx f.1 fx
   ·exact ai4 rx fx t f.2 u' hu
def inV (x:V) (xs:List V):Bool:=xs.any fun y=>eqV y x
def rIn (K:PySem.W.Frag) (neg:Bool):R2:=fun x y H Q=>∃ p xs,y=.ref p/\(SqL K H p xs∨SqT K H p xs)/\as9 x=true/\xs.all as9=true/\Q (.bl (if neg then !inV x xs else inV x xs)) H
theorem ad2:OpR X (compareOp .In) (rIn X.K false):=by
 intro pins s σ H x y v u Q I rx ry h
 obtain ⟨p,xs,rfl,hq,fx,fs,q⟩:=h
 cases ry
 rcases hq with hq|hq
 ·obtain ⟨its,r,pl,hz⟩:=I.list hq
  refine SeqAt.in_listAt (eqU x) pl.isList (fun w hw=>ai4 rx fx r fs w (by simpa using hw)) ⟨.bl _,H,I,rfl,?_⟩
  rw [show its.toArray.any (eqU x)=its.any (eqU x) by simp,an8 r fs]
  exact q
 ·obtain ⟨its,r,pl,hz⟩:=I.tuple hq
  refine SeqAt.in_tupleAt (eqU x) pl (fun w hw=>ai4 rx fx r fs w (by simpa using hw)) ⟨.bl _,H,I,rfl,?_⟩
  rw [show its.toArray.any (eqU x)=its.any (eqU x) by simp,an8 r fs]
  exact q
theorem ag3:OpR X (compareOp .NotIn) (rIn X.K true):=by
 intro pins s σ H x y v u Q I rx ry h
 obtain ⟨p,xs,rfl,hq,fx,fs,q⟩:=h
 cases ry
 rcases hq with hq|hq
 ·obtain ⟨its,r,pl,hz⟩:=I.list hq
  refine SeqAt.notIn_listAt (eqU x) pl.isList (fun w hw=>ai4 rx fx r fs w (by simpa using hw)) ⟨.bl _,H,I,rfl,?_⟩
  rw [show its.toArray.any (eqU x)=its.any (eqU x) by simp,an8 r fs]
  exact q
 ·obtain ⟨its,r,pl,hz⟩:=I.tuple hq
  refine SeqAt.notIn_tupleAt (eqU x) pl (fun w hw=>ai4 rx fx r fs w (by simpa using hw)) ⟨.bl _,H,I,rfl,?_⟩
  rw [show its.toArray.any (eqU x)=its.any (eqU x) by simp,an8 r fs]
  exact q
theorem a66:ag5 X (.builtin "len") (fun xs H Q=>∃ p ys,xs=[.ref p]/\(SqL X.K H p ys∨SqT X.K H p ys)/\Q (.int ys.length) H):=by
 intro pins s σ H xs us Q I r h
 obtain ⟨p,ys,rfl,hq,q⟩:=h
 obtain ⟨u,rfl,rx⟩:=vals1 r
 cases rx
 have hn:=aq5
 rcases hq with hq|hq
 ·obtain ⟨its,r',pl,hz⟩:=I.list hq
  have hlen:=r'.length
  exact Calls.call_len_list pl.isList (by simp only [List.size_toArray] <;> omega) ⟨.int ys.length,H,I.tok _,⟨s.toks+1,by rw [List.size_toArray,hlen]⟩,q⟩
 ·obtain ⟨its,r',pl,hz⟩:=I.tuple hq
  have hlen:=r'.length
  exact len_tuple pl (by simp only [List.size_toArray] <;> omega) ⟨.int ys.length,H,I.tok _,⟨s.toks+1,by rw [List.size_toArray,hlen]⟩,q⟩
theorem ag1:ag5 X (.builtin "len") (fun xs H Q=>∃ z,xs=[.str z]/\z.length≤sizeLine/\Q (.int z.length) H):=by
 intro pins s σ H xs us Q I r h
 obtain ⟨z,rfl,hz,q⟩:=h
 obtain ⟨u,rfl,t,rfl⟩:=vals1 r
 have hn:=aq5
 exact len_str (by omega) ⟨.int z.length,H,I.tok _,⟨_,rfl⟩,q⟩
theorem al0:ag5 X (.type "list") (fun xs H Q=>∃ p ys,xs=[.ref p]/\(SqL X.K H p ys∨SqT X.K H p ys)/\∀ l,H l=none->Q (.ref l) (upd H l (.lst ys))):=by
 intro pins s σ H xs us Q I r h
 obtain ⟨p,ys,rfl,hq,q⟩:=h
 obtain ⟨u,rfl,rx⟩:=vals1 r
 cases rx
 have fin:∀ (its:List Value),Vals ys its->ys.length≤sizeLine->∀ (h':Heap) (c':Nat),(∀ b o',s.heap.get? b=some o'->h'.get? b=some o')->
  h'.get? s.heap.objs.size=some { cls:=.type "list",dict:=none,data:=.seq its.toArray c',slots:=#[] }->EP X pins σ Q (.ref s.heap.objs.size) { s with heap:=h' }:=fun its r' hz h' c' kp e=>
  ⟨.ref s.heap.objs.size,_,I.laid (t':=s.toks) kp (Nat.le_refl _) (show ab6 X.prog X.w _ h' _ (.lst ys) from ⟨hz,its,c',r',e⟩),rfl,q _ (I.hok.fresh (Nat.le_refl _))⟩
 rcases hq with hq|hq
 ·obtain ⟨its,r',pl,hz⟩:=I.list hq
  have hlen:=r'.length
  obtain ⟨o,ho,hc,n,hd⟩:=pl.isList
  exact call_list_seq p (.inl rfl) ho hc hd (fun h' c' kp e=>fin its r' hz h' c' kp e) (by simp only [List.size_toArray] <;> omega)
 ·obtain ⟨its,r',pl,hz⟩:=I.tuple hq
  have hlen:=r'.length
  obtain ⟨o,ho,hc,n,hd⟩:=pl
  exact call_list_seq p (.inr rfl) ho hc hd (fun h' c' kp e=>fin its r' hz h' c' kp e) (by simp only [List.size_toArray] <;> omega)
theorem ad0:ag5 X (.type "tuple") (fun xs H Q=>∃ p ys,xs=[.ref p]/\((SqL X.K H p ys/\∀ l,H l=none->Q (.ref l) (upd H l (.tup ys)))∨(SqT X.K H p ys/\Q (.ref p) H))):=by
 intro pins s σ H xs us Q I r h
 obtain ⟨p,ys,rfl,h⟩:=h
 obtain ⟨u,rfl,rx⟩:=vals1 r
 cases rx
 rcases h with ⟨hq,q⟩|⟨hq,q⟩
 ·obtain ⟨its,r',pl,hz⟩:=I.list hq
  have hlen:=r'.length
  refine call_tuple_list pl.isList (fun h' kp=>?_) (by simp only [List.size_toArray] <;> omega)
  have I1:Inv X pins σ H { s with heap:=h' }:=I.kept (t':=s.toks) kp
  have I2:Inv X pins σ (upd H h'.objs.size (.tup ys)) { s with heap:=h'.push { cls:=.type "tuple",data:=.seq its.toArray } }:=
   I1.laid (t':=s.toks) (fun b o e=>Heap.get?_push_of_some _ e) (Nat.le_refl _) (show ab6 X.prog X.w _ _ _ (.tup ys) from ⟨hz,its,r',IsTup.new _ _⟩)
  exact ⟨.ref h'.objs.size,_,I2,rfl,q _ (I1.hok.fresh (Nat.le_refl _))⟩
 ·obtain ⟨its,r',pl,hz⟩:=I.tuple hq
  exact call_tuple_same pl ⟨.ref p,H,I,rfl,q⟩
def tyV (K:PySem.W.Frag) (T:String) (x:V) (H:Hp):Prop:=match x with
 |.str _=>T = "str"
 |.int _=>T = "int"
 |.ref p=>(T = "list"/\∃ xs,SqL K H p xs)∨(T = "tuple"/\∃ o,K.lookup p=some o/\o.cls=.type "tuple"/\o.dict=none)∨
  (T = "dict"/\((∃ kvs,H p=some (.dK kvs))∨∃ kvs,H p=some (.dT kvs)))∨(T = "set"/\∃ S n,H p=some (.set S n))
 |_=>False
theorem tyV_is {pins:List (Addr×Obj)} {σ:St} {H:Hp} {s:Shared} {T:String} {x:V} {v:Value} (I:Inv X pins σ H s) (r:RelV x v) (ty:tyV X.K T x H) :
 s.TypeIs v T/\∀ a,v=.ref a->∃ ob,s.heap.get? a=some ob/\ob.dict=none:=by
 cases x with
 | str z=>
   obtain ⟨t,rfl⟩:=r
   cases (show T = "str" from ty)
   exact ⟨typeIs_str s z t,fun _ e=>nomatch e⟩
 | int i=>
   obtain ⟨t,rfl⟩:=r
   cases (show T = "int" from ty)
   exact ⟨typeIs_int s i t,fun _ e=>nomatch e⟩
 | ref p=>
   cases r
   rcases ty with ⟨rfl,xs,hq⟩|⟨rfl,o,hk,hc,hd⟩|⟨rfl,hk⟩|⟨rfl,S,n,hk⟩
   ·obtain ⟨its,_,pl,_⟩:=I.list hq
    refine ⟨pl.isList.typeIs,fun a e=>?_⟩
    cases e
    obtain ⟨o,n,e,c,hd,_⟩:=pl
    exact ⟨o,e,hd⟩
   ·refine ⟨⟨o,I.kIn p o hk,hc⟩,fun a e=>?_⟩
    cases e
    exact ⟨o,I.kIn _ o hk,hd⟩
   ·have z:∃ o,s.heap.get? p=some o/\o.ExactDict:=by
     rcases hk with ⟨kvs,hk⟩|⟨kvs,hk⟩
     ·obtain ⟨_,_,_,_,o,_,_,e,ex,_⟩:=I.hok p _ hk
      exact ⟨o,e,ex⟩
     ·obtain ⟨_,_,_,_,o,_,_,e,ex,_⟩:=I.hok p _ hk
      exact ⟨o,e,ex⟩
    obtain ⟨o,e,ex⟩:=z
    refine ⟨⟨o,e,ex.1⟩,fun a e2=>?_⟩
    cases e2
    exact ⟨o,e,ex.2.1⟩
   ·obtain ⟨o,_,_,_,e,ex,_⟩:=I.hok p _ hk
    refine ⟨⟨o,e,ex.1⟩,fun a e2=>?_⟩
    cases e2
    exact ⟨o,e,ex.2.1⟩
 |_=>exact False.elim ty
def tBM0 (K:PySem.W.Frag) (T:String) (r:V->List V->Hp->VK->Prop) (to:TE):TE:=fun σ H Q=>to σ H fun x H1=>tyV K T x H1/\r x [] H1 Q
def tBM (K:PySem.W.Frag) (T:String) (r:V->List V->Hp->VK->Prop) (to:TE) (t:TA):TE:=fun σ H Q=>to σ H fun x H1=>tyV K T x H1/\t σ H1 fun xs H2=>r x xs H2 Q
variable {o e:Expr} {es:List Expr} {to:TE} {t:TA} {name:Str} {apos cpos:Pos} {T id:String} {r:V->List V->Hp->VK->Prop}
theorem pe_bm0 (pa:PlainAttrs T) (slot:Slot T name id) (hty:typeOf (.builtin id)=pure (.type "method_descriptor")) (hm:MtR X id r) (ho:PE X o to)
 (hbase:attributeBase o name X.env (eval o X.env)=eval o X.env:=by rfl) (hline:(apos.endLine == cpos.line)=true:=by rfl):PE X (.Call (.Attribute o name apos) [] [] cpos) (tBM0 X.K T r to):=by
 intro pins s σ H Q I h
 refine wpAny_Call_method0_late hbase hline (thn (ho pins s σ H _ I h) fun v s1 ⟨x,H1,I1,r1,ty,q1⟩=>?_)
 obtain ⟨h1,h2⟩:=tyV_is I1 r1 ty
 exact ⟨T,id,pa,slot,hty,h1,h2,Calls.callWith_builtin rfl (PySem.evalArgs_none (hm pins s1 σ H1 x [] v [] Q I1 r1 .nil q1))⟩
theorem pe_bm (pa:PlainAttrs T) (slot:Slot T name id) (hty:typeOf (.builtin id)=pure (.type "method_descriptor")) (hm:MtR X id r) (ho:PE X o to) (ha:PA X (e::es) t)
 (hbase:attributeBase o name X.env (eval o X.env)=eval o X.env:=by rfl)
 (hfew:((backTo cpos (starEach (e::es) X.env)).all (fun x=>!x.1) && (backToKw cpos (keywordEach [] X.env)).all (fun x=>x.1.isSome)
  && decide ((e::es).length+([]:List Keyword).length+(if ([]:List Keyword).isEmpty then 0 else 1)<30))=true:=by rfl)
 (hline:(apos.endLine == cpos.line)=true:=by rfl) (hs:starEach (e::es) X.env=(false,eval e X.env)::starEach es X.env:=by rfl) (hplain:(backTo cpos (starEach es X.env)).any (·.1)=false:=by rfl) :
 PE X (.Call (.Attribute o name apos) (e::es) [] cpos) (tBM X.K T r to t):=by
 intro pins s σ H Q I h
 refine wpAny_Call_method_late hbase hfew hline rfl (thn (ho pins s σ H _ I h) fun v s1 ⟨x,H1,I1,r1,ty,q1⟩=>?_)
 obtain ⟨h1,h2⟩:=tyV_is I1 r1 ty
 refine ⟨T,id,pa,slot,hty,h1,h2,?_⟩
 have hA:=ha cpos pins s1 σ H1 _ I1 q1
 rw [hs] at hA ⊢
 refine Calls.callWith_builtin (by show (false || (backTo cpos (starEach es X.env)).any (·.1))=false;rw [hplain] <;> rfl) (Calls.evalArgs_plain ?_)
 exact thn hA fun us s2 ⟨vs,H2,I2,r2,q2⟩=>hm pins s2 σ H2 x vs v us Q I2 r1 r2 q2
end
def MtM (X:Cx) (id:String) (r:V->List V->Hp->VK->Prop):Prop:=
 ∀ (pins:List (Addr×Obj)) (s:Shared) (σ:St) (H:Hp) (x:V) (xs:List V) (v:Value) (us:List Value) (Q:VK),Inv X pins σ H s->RelV x v->Vals xs us->r x xs H Q->
   wpAny (model X.prog X.w) X.A (call (.builtin id) (v::us)) (EP X pins σ Q) X.xe s
theorem Vals.one:∀ {x:V} {us:List Value},Vals [x] us->∃ u,us=[u]/\RelV x u
 |_,_,.cons r .nil=>⟨_,rfl,r⟩
theorem Vals.eraseIdx:∀ {xs:List V} {us:List Value} (i:Nat),Vals xs us->Vals (xs.eraseIdx i) (us.eraseIdx i)
 |_,_,_,.nil=>.nil
 |_,_,0,.cons _ t=>t
 |_,_,i+1,.cons r t=>.cons r (Vals.eraseIdx i t)
theorem len_erase {α:Type}:∀ (l:List α) (i:Nat),(l.eraseIdx i).length≤l.length
 |[],_=>Nat.le_refl _
 |_::_,0=>Nat.le_succ _
 |_::r,i+1=>Nat.succ_le_succ (len_erase r i)
section
variable {X:Cx} {pins:List (Addr×Obj)} {σ:St} {H:Hp} {s:Shared} {l b:Addr} {xs ys zs:List V}
theorem Inv.lset {its its':List Value} {n:Nat} {f:Array Value->Array Value} {t':Nat} (I:Inv X pins σ H s) (hH:H l=some (.lst xs))
 (e:s.heap.get? l=some { cls:=.type "list",data:=.seq its.toArray n }) (hf:f its.toArray=its'.toArray) (hv:Vals ys its') (hz:ys.length≤sizeLine) :
 Inv X pins σ (upd H l (.lst ys)) { s with heap:=s.heap.update l (Obj.mapSeq f),toks:=t' }:=by
 have q:=PySem.IsL.update e f
 rw [hf] at q
 refine I.write (x:=l) (e:=l) (by rw [hH];exact trivial) (.inl rfl) (fun b' u hb hu=>(Heap.get?_update_other s.heap (Obj.mapSeq f) (Ne.symm hb)).trans hu) ⟨_,q⟩ ?_
 exact ⟨hz,its',_,hv,q⟩
theorem Inv.lnew {its:List Value} {t':Nat} (I:Inv X pins σ H s) (hv:Vals ys its) (hz:ys.length≤sizeLine) :
 Inv X pins σ (upd H s.heap.objs.size (.lst ys)) { s with heap:=s.heap.push { cls:=.type "list",data:=.seq its.toArray },toks:=t' }:=
 I.laid (fun _ _ q=>Heap.get?_push_of_some _ q) (Nat.le_refl _) ⟨hz,its,0,hv,Heap.get?_push_size _ rfl⟩
theorem Inv.fresh (I:Inv X pins σ H s):H s.heap.objs.size=none:=I.hok.fresh (Nat.le_refl _)
theorem Inv.lstM (I:Inv X pins σ H s) (hH:H l=some (.lst xs)):xs.length≤sizeLine/\∃ (its:List Value) (n:Nat),Vals xs its/\xs.length=its.length/\s.heap.get? l=some { cls:=.type "list",data:=.seq its.toArray n }:=by
 obtain ⟨z,its,n,r,e⟩:=I.hok l _ hH
 exact ⟨z,its,n,r,r.length,e⟩
theorem notLongL {n:Nat} (h:n≤sizeLine):Builtin.List.listTooLong n=false:=by
 unfold Builtin.List.listTooLong
 exact decide_eq_false (by omega)
end
section
variable {X:Cx}
def rAppend:V->List V->Hp->VK->Prop:=fun x vs H Q=>∃ l xs y,x=.ref l/\vs=[y]/\H l=some (.lst xs)/\xs.length<sizeLine/\Q .non (upd H l (.lst (xs++[y])))
theorem ai9:MtM X "list.append" rAppend:=by
 intro pins s σ H x vs v us Q I rx rv h
 obtain ⟨l,xs,y,rfl,rfl,hH,hz,q⟩:=h
 cases rx
 obtain ⟨u,rfl,ru⟩:=rv.one
 obtain ⟨z,its,n,r,hl,e⟩:=I.lstM hH
 refine call_meets F.slot_list_append ⟨_,e,rfl⟩ F.entry_list_append (F.args_list_append_2 _ _) (PySem.list_append l its.toArray n u (by rw [List.size_toArray];omega)) ⟨e,?_⟩
 refine ⟨.non,_,I.lset (its':=its++[u]) hH e (by simp) (r.append (.cons ru .nil)) ?_,rfl,q⟩
 rw [List.length_append,List.length_singleton]
 omega
def rExtend:V->List V->Hp->VK->Prop:=fun x vs H Q=>∃ l b xs zs,x=.ref l/\vs=[.ref b]/\H l=some (.lst xs)/\H b=some (.lst zs)/\xs.length+zs.length≤sizeLine/\Q .non (upd H l (.lst (xs++zs)))
theorem mt_extend:MtM X "list.extend" rExtend:=by
 intro pins s σ H x vs v us Q I rx rv h
 obtain ⟨l,b,xs,zs,rfl,rfl,hH,hB,hz,q⟩:=h
 cases rx
 obtain ⟨u,rfl,ru⟩:=rv.one
 cases ru
 obtain ⟨z,its,n,r,hl,e⟩:=I.lstM hH
 obtain ⟨z2,its2,n2,r2,hl2,e2⟩:=I.lstM hB
 have hsz:its.toArray.size+its2.toArray.size≤sizeLine:=by rw [List.size_toArray,List.size_toArray];omega
 have hlong:¬ (!its.toArray.isEmpty && Builtin.List.listTooLong (its.toArray.size+its2.toArray.size))=true:=by
  rw [notLongL hsz,Bool.and_false]
  exact Bool.false_ne_true
 refine call_meets F.slot_list_extend ⟨_,e,rfl⟩ F.entry_list_extend (F.args_list_extend_2 _ _)
  (AutoSeq1.list_extend_list_list_0 l its.toArray n b its2.toArray n2 hlong (by rw [List.size_toArray];omega) (by omega)) ⟨e,e2,?_⟩
 refine ⟨.non,_,I.lset (its':=its++its2) hH e (by simp) (r.append r2) ?_,rfl,q⟩
 rw [List.length_append]
 omega
def rPopAt:V->List V->Hp->VK->Prop:=fun x vs H Q=>∃ l xs i k y,x=.ref l/\vs=[.int i]/\H l=some (.lst xs)/\-(2 ^ 63)≤i/\i<2 ^ 63/\seqIndex? i xs.length=some k/\xs[k]?=some y/\Q y (upd H l (.lst (xs.eraseIdx k)))
theorem mt_popAt:MtM X "list.pop" rPopAt:=by
 intro pins s σ H x vs v us Q I rx rv h
 obtain ⟨l,xs,i,k,y,rfl,rfl,hH,h1,h2,hk,hy,q⟩:=h
 cases rx
 obtain ⟨u,rfl,ru⟩:=rv.one
 obtain ⟨t,rfl⟩:=ru
 obtain ⟨z,its,n,r,hl,e⟩:=I.lstM hH
 obtain ⟨w,hw,rw'⟩:=r.get hy
 refine call_meets F.slot_list_pop ⟨_,e,rfl⟩ F.entry_list_pop (F.args_list_pop_2 _ _)
  (MeetsSeq.list_pop_at l its.toArray n i t k w (fitsIndex_both h1 h2) (by rw [List.size_toArray,← hl];exact hk) (by rw [← Array.getElem?_toList];exact hw) (by rw [List.size_toArray];omega)) ⟨e,?_⟩
 refine ⟨y,_,I.lset (its':=its.eraseIdx k) hH e ?_ (r.eraseIdx k) ?_,rw',q⟩
 ·show its.toArray.eraseIdxIfInBounds k=(its.eraseIdx k).toArray
  rw [List.eraseIdxIfInBounds_toArray]
 ·have:=len_erase xs k
  omega
def rCat:R2:=fun x y H Q=>∃ l b xs zs,x=.ref l/\y=.ref b/\H l=some (.lst xs)/\H b=some (.lst zs)/\xs.length+zs.length≤sizeLine/\∀ p,H p=none->Q (.ref p) (upd H p (.lst (xs++zs)))
theorem op_cat:OpR X (binaryOp .Add) rCat:=by
 intro pins s σ H x y v u Q I rx ry h
 obtain ⟨l,b,xs,zs,rfl,rfl,hH,hB,hz,q⟩:=h
 cases rx
 cases ry
 obtain ⟨z,its,n,r,hl,e⟩:=I.lstM hH
 obtain ⟨z2,its2,n2,r2,hl2,e2⟩:=I.lstM hB
 refine PySem.P.add_list e e2 ?_ (by rw [List.size_toArray,List.size_toArray];omega)
 have ea:its.toArray++its2.toArray=(its++its2).toArray:=by simp
 rw [ea]
 exact ⟨.ref _,_,I.lnew (t':=s.toks) (r.append r2) (by rw [List.length_append];omega),rfl,q _ I.fresh⟩
end
section
variable {prog:Program} {w:World} {A:Around} {E:Value->Shared->Prop} {s:Shared}
end
section
variable {X:Cx}
end
section
variable {κ:Type} [DecidableEq κ]
def valV (kvs:List (κ×V)) (k:κ):Option V:=(kvs.find? fun kv=>decide (kv.1=k)).map (·.2)
def putK (kvs:List (κ×V)) (k:κ) (v:V):List (κ×V):=
 if (kvs.any fun kv=>decide (kv.1=k))=true then kvs.map (fun kv=>if kv.1=k then (kv.1,v) else kv) else kvs++[(k,v)]
theorem ar6 {p:κ×V} {r:List (κ×V)} {k:κ} (e:p.1=k):valV (p::r) k=some p.2:=by simp [valV,List.find?_cons,e]
theorem ar0 {p:κ×V} {r:List (κ×V)} {k:κ} (e:¬ p.1=k):valV (p::r) k=valV r k:=by simp [valV,List.find?_cons,e]
theorem valV_any (k:κ):∀ kvs:List (κ×V),(kvs.any fun kv=>decide (kv.1=k))=(valV kvs k).isSome
 |[]=>rfl
 | p::r=>by
   rw [List.any_cons]
   by_cases e:p.1=k
   ·simp only [ar6 e,decide_eq_true e,Bool.true_or,Option.isSome_some]
   ·rw [ar0 e,decide_eq_false e,Bool.false_or];exact valV_any k r
theorem ah7 (kvs:List (κ×V)) (k:κ) (v:V):(putK kvs k v).length≤kvs.length+1:=by
 unfold putK
 split
 ·rw [List.length_map];omega
 ·rw [List.length_append,List.length_cons,List.length_nil];omega
theorem RelO.isSome_eq {o:Option V} {u:Option Value} (r:RelO o u):o.isSome=u.isSome:=by
 cases o with
 | none=>cases u with
   |none=>rfl
   |some _=>exact (show False from r).elim
 | some _=>cases u with
   |none=>exact (show False from r).elim
   |some _=>rfl
theorem KV.val {kvs:List (κ×V)} {vs:List (κ×Value)} (r:KV kvs vs) (k:κ):RelO (valV kvs k) (valueAt vs k):=by
 unfold KV at r
 induction r with
 |nil=>exact True.intro
 | @cons p q ps qs h t ih=>
   obtain ⟨h1,h2⟩:=h
   by_cases e:p.1=k
   ·have e':q.1=k:=h1.symm.trans e
    have b:valueAt (q::qs) k=some q.2:=by simp [valueAt,List.find?_cons,e']
    rw [ar6 e,b];exact h2
   ·have e':¬ q.1=k:=fun z=>e (h1.trans z)
    have b:valueAt (q::qs) k=valueAt qs k:=by simp [valueAt,List.find?_cons,e']
    rw [ar0 e,b];exact ih
theorem KV.any {kvs:List (κ×V)} {vs:List (κ×Value)} (r:KV kvs vs) (k:κ):(kvs.any fun kv=>decide (kv.1=k))=vs.any fun kv=>decide (kv.1=k):=by
 unfold KV at r
 induction r with
 |nil=>rfl
 |cons h t ih=>rw [List.any_cons,List.any_cons,ih,h.1]
theorem KV.repl {kvs:List (κ×V)} {vs:List (κ×Value)} (r:KV kvs vs) (k:κ) {y:V} {u:Value} (ry:RelV y u) :
 KV (kvs.map fun kv=>if kv.1=k then (kv.1,y) else kv) (vs.map fun kv=>if kv.1=k then (kv.1,u) else kv):=by
 unfold KV at r ⊢
 induction r with
 |nil=>exact .nil
 | @cons p q ps qs h t ih=>
   rw [List.map_cons,List.map_cons]
   refine .cons ?_ ih
   obtain ⟨h1,h2⟩:=h
   by_cases e:p.1=k
   ·rw [if_pos e,if_pos (h1.symm.trans e)];exact ⟨h1,ry⟩
   ·rw [if_neg e,if_neg (fun z=>e (h1.trans z))];exact ⟨h1,h2⟩
theorem KV.put {kvs:List (κ×V)} {vs:List (κ×Value)} (r:KV kvs vs) (k:κ) {y:V} {u:Value} (ry:RelV y u):KV (putK kvs k y) (stored vs k u):=by
 unfold putK stored
 rw [r.any k]
 by_cases e:(vs.any fun kv=>decide (kv.1=k))=true
 ·rw [if_pos e,if_pos e];exact r.repl k ry
 ·rw [if_neg e,if_neg e];exact Paired.snoc r ⟨rfl,ry⟩
theorem KV.length {kvs:List (κ×V)} {vs:List (κ×Value)} (r:KV kvs vs):kvs.length=vs.length:=Paired.length r
end
theorem kV_is {P:Program} {w:World} {k:Key} {u:Value} (r:RelV (kV k) u):(ab4 P w).is k u=true:=by
 cases k with
 |inl i=>obtain ⟨t,e⟩:=(show ∃ t,u=Value.int i t from r);subst e;exact mixKind_int P w i t
 |inr x=>obtain ⟨t,e⟩:=(show ∃ t,u=Value.str x t from r);subst e;exact mixKind_str P w x t
theorem items_are {P:Program} {w:World}:∀ {ks:List Key} {us:List Value},Vals (ks.map kV) us->ItemsAre (ab4 P w) ks us
 |[],_,r=>by rw [List.map_nil] at r;cases r;exact .nil
 | k::ks,_,r=>by
   rw [List.map_cons] at r
   cases r with
   |cons h t=>exact .cons (kV_is h) (items_are t)
abbrev KT (H:Hp):List (List Key×V)->List (List Key×Addr×Value)->Prop:=Paired fun p q=>p.1=q.1/\H q.2.1=some (.tup (p.1.map kV))/\RelV p.2 q.2.2
theorem KT.val {H:Hp} {kvs:List (List Key×V)} {xs:List (List Key×Addr×Value)} (r:KT H kvs xs) (k:List Key):RelO (valV kvs k) ((atKey xs k).map (·.2)):=by
 induction r with
 |nil=>exact True.intro
 | @cons p q ps qs h t ih=>
   obtain ⟨h1,_,h2⟩:=h
   by_cases e:p.1=k
   ·have e':q.1=k:=h1.symm.trans e
    have b:atKey (q::qs) k=some q.2:=by simp [atKey,List.find?_cons,e']
    rw [ar6 e,b];exact h2
   ·have e':¬ q.1=k:=fun z=>e (h1.trans z)
    have b:atKey (q::qs) k=atKey qs k:=by simp [atKey,List.find?_cons,e']
    rw [ar0 e,b];exact ih
theorem KT.repl {H:Hp} {kvs:List (List Key×V)} {xs:List (List Key×Addr×Value)} (r:KT H kvs xs) (k:List Key) {y:V} {u:Value} (ry:RelV y u) :
 KT H (kvs.map fun kv=>if kv.1=k then (kv.1,y) else kv) (xs.map (putAt k u)):=by
 induction r with
 |nil=>exact .nil
 | @cons p q ps qs h t ih=>
   rw [List.map_cons,List.map_cons]
   refine .cons ?_ ih
   obtain ⟨h1,h2,h3⟩:=h
   unfold putAt
   by_cases e:p.1=k
   ·rw [if_pos e,if_pos (h1.symm.trans e)];exact ⟨h1,h2,ry⟩
   ·rw [if_neg e,if_neg (fun z=>e (h1.trans z))];exact ⟨h1,h2,h3⟩
theorem KT.put {H:Hp} {kvs:List (List Key×V)} {xs:List (List Key×Addr×Value)} (r:KT H kvs xs) (k:List Key) {b:Addr} {y:V} {u:Value} (hb:H b=some (.tup (k.map kV))) (ry:RelV y u) :
 KT H (putK kvs k y) (storedH xs k b u):=by
 have e:(kvs.any fun kv=>decide (kv.1=k))=(atKey xs k).isSome:=by
  rw [valV_any,(r.val k).isSome_eq,Option.isSome_map]
 unfold putK storedH
 rw [e]
 by_cases q:(atKey xs k).isSome=true
 ·rw [if_pos q,if_pos q];exact r.repl k ry
 ·rw [if_neg q,if_neg q];exact Paired.snoc r ⟨rfl,hb,ry⟩
theorem KT.keeps {H H':Hp} {kvs:List (List Key×V)} {xs:List (List Key×Addr×Value)} (r:KT H kvs xs) (ht:∀ b ys,H b=some (.tup ys)->H' b=some (.tup ys)):KT H' kvs xs:=
 Paired.mapP r fun _ _ z=>⟨z.1,ht _ _ z.2.1,z.2.2⟩
section
variable {P:Program} {w:World} {H:Hp} {h:Heap} {a:Addr}
theorem rd_of {u:HO} (ok:HOk P w H h) (e:Rd H a u):ab6 P w H h a u:=e.ok ok
theorem dk_rd {kvs:List (Key×V)} (ok:HOk P w H h) (e:Rd H a (.dK kvs)):kvs.length≤sizeLine/\(a == sysModules)=false/\∃ vs,KV kvs vs/\h.DictOf (ab4 P w) a vs:=
 show ab6 P w H h a (.dK kvs) from rd_of ok e
theorem dk_of {kvs:List (Key×V)} (ok:HOk P w H h) (e:H a=some (.dK kvs)):kvs.length≤sizeLine/\(a == sysModules)=false/\∃ vs,KV kvs vs/\h.DictOf (ab4 P w) a vs:=dk_rd ok (.inl e)
theorem key_of {ks:List Key} (ok:HOk P w H h) (e:H a=some (.tup (ks.map kV))):(tupleKind (ab4 P w)).is h ks a:=by
 obtain ⟨_,its,r,o,h1,h2,n,h3⟩:=(show ab6 P w H h a (.tup (ks.map kV)) from ok a _ e)
 exact ⟨o,its.toArray,n,h1,h2,h3,by simpa using items_are r⟩
theorem dt_rd {kvs:List (List Key×V)} (ok:HOk P w H h) (e:Rd H a (.dT kvs)):kvs.length≤sizeLine/\(a == sysModules)=false/\
 ∃ xs,KT H kvs xs/\h.DictOfH (tupleKind (ab4 P w)) a xs:=by
 obtain ⟨z,y,xs,r,o,es,ep,h1,h2,h3,h4,h5⟩:=(show ab6 P w H h a (.dT kvs) from rd_of ok e)
 refine ⟨z,y,xs,r,o,es,ep,h1,h2,h3,h4,fun x hx=>?_,h5⟩
 have all:∀ {l:List (List Key×V)} {m:List (List Key×Addr×Value)},KT H l m->∀ x∈m,(tupleKind (ab4 P w)).is h x.1 x.2.1:=by
  intro l m q
  induction q with
  |nil=>intro x hx;exact nomatch hx
  | @cons p q ps qs hq t ih=>
    intro x hx
    rcases List.mem_cons.mp hx with e|hx
    ·subst e
     exact key_of ok (by rw [← hq.1];exact hq.2.1)
    ·exact ih x hx
 exact all r x hx
theorem dt_of {kvs:List (List Key×V)} (ok:HOk P w H h) (e:H a=some (.dT kvs)):kvs.length≤sizeLine/\(a == sysModules)=false/\
 ∃ xs,KT H kvs xs/\h.DictOfH (tupleKind (ab4 P w)) a xs:=dt_rd ok (.inl e)
end
def DGet (H:Hp) (a:Addr) (y:V) (r:Option V):Prop:=
 (∃ kvs k,Rd H a (.dK kvs)/\y=kV k/\r=valV kvs k)∨∃ kvs k b,Rd H a (.dT kvs)/\y=.ref b/\H b=some (.tup (k.map kV))/\r=valV kvs k
def DPut (H:Hp) (a:Addr) (y v:V) (H':Hp):Prop:=
 (∃ kvs k,H a=some (.dK kvs)/\y=kV k/\kvs.length<sizeLine/\H'=upd H a (.dK (putK kvs k v)))∨
 ∃ kvs k b,H a=some (.dT kvs)/\y=.ref b/\H b=some (.tup (k.map kV))/\kvs.length<sizeLine/\H'=upd H a (.dT (putK kvs k v))
theorem DGet.k {H:Hp} {a:Addr} {kvs:List (Key×V)} {k:Key} (e:H a=some (.dK kvs)):DGet H a (kV k) (valV kvs k):=.inl ⟨kvs,k,.inl e,rfl,rfl⟩
theorem DPut.k {H:Hp} {a:Addr} {kvs:List (Key×V)} {k:Key} {v:V} (e:H a=some (.dK kvs)) (hl:kvs.length<sizeLine):DPut H a (kV k) v (upd H a (.dK (putK kvs k v))):=.inl ⟨kvs,k,e,rfl,hl,rfl⟩
section
variable {X:Cx} {pins:List (Addr×Obj)} {σ:St} {H:Hp} {s:Shared} {a:Addr} {y v:V} {u r:Value} {o:Option V} {A:Around} {E:Value->Shared->Prop}
theorem Inv.big (I:Inv X pins σ H s):sysModules<s.heap.objs.size:=by
 have h:mainGlobals<s.heap.objs.size:=(I.mod.glob.keeps I.bk).lt
 exact Nat.lt_trans (by decide) h
theorem d_getItem {Q:Value->Shared->Prop} (hu:A.units+1<cLine) (I:Inv X pins σ H s) (g:DGet H a y (some v)) (ry:RelV y u) (h:∀ w' s',Inv X pins σ H s'->RelV v w'->Q w' s') :
 wpAny (model X.prog X.w) A (getItem (.ref a) u) Q E s:=by
 rcases g with ⟨kvs,k,e,ey,l⟩|⟨kvs,k,b,e,ey,eb,l⟩
 ·subst ey
  obtain ⟨z,hd,vs,rel,dd⟩:=dk_rd I.hok e
  obtain ⟨w',hw,rw'⟩:=RelO.some_of (v:=v) (o:=valueAt vs k) (by rw [l];exact rel.val k)
  exact wpAny_getItem_of (kV_is ry) dd.mapOf hw (h w' _ (I.tok _) rw')
 ·subst ey
  cases (show u=Value.ref b from ry)
  obtain ⟨z,hd,xs,rel,dd⟩:=dt_rd I.hok e
  obtain ⟨w',hw,rw'⟩:=RelO.some_of (v:=v) (o:=(atKey xs k).map (·.2)) (by rw [l];exact rel.val k)
  obtain ⟨p,hp,hp2⟩:=Option.map_eq_some_iff.mp hw
  refine wpAny_getItem_heap (tupleKind_room_in1 hu) (key_of I.hok eb) dd hp ?_
  rw [hp2]
  exact h w' _ (I.tok _) rw'
theorem d_write {h':Heap} {t':Nat} {ob:HO} (I:Inv X pins σ H s) (mu:Mut (H a)) (hs:Heap.SameBut a s.heap h') (he:∃ q,h'.get? a=some q) (new:ab6 X.prog X.w (upd H a ob) h' a ob) :
 Inv X pins σ (upd H a ob) { s with heap:=h',toks:=t' }:=
 I.write (x:=a) (e:=a) mu (.inl rfl) (fun b q hb z=>(hs.2 b hb).trans z) he new
theorem dk_new {P:Program} {w:World} {H':Hp} {h':Heap} {kvs:List (Key×V)} {vs:List (Key×Value)} (z:kvs.length≤sizeLine) (hd:(a == sysModules)=false) (rel:KV kvs vs) (dd:h'.DictOf (ab4 P w) a vs) :
 ab6 P w H' h' a (.dK kvs):=⟨z,hd,vs,rel,dd⟩
theorem d_setItem {H':Hp} {Q:Unit->Shared->Prop} (hu:A.units+1<cLine) (I:Inv X pins σ H s) (g:DPut H a y v H') (ry:RelV y u) (rv:RelV v r) (h:∀ s',Inv X pins σ H' s'->Q () s') :
 wpAny (model X.prog X.w) A (setItem (.ref a) u r) Q E s:=by
 rcases g with ⟨kvs,k,e,ey,l,eH⟩|⟨kvs,k,b,e,ey,eb,l,eH⟩
 ·subst ey eH
  obtain ⟨z,hd,vs,rel,dd⟩:=dk_of I.hok e
  have hz:vs.length≤sizeLine:=by rw [← rel.length];exact z
  have hl:(putK kvs k v).length≤sizeLine:=by have:=ah7 kvs k v;omega
  refine wpAny_setItem_pairs (hsz:=hz) (kV_is ry) dd fun h' dd' hs=>h _ ?_
  have he:∃ q,h'.get? a=some q:=let ⟨q,_,_,hq,_⟩:=dd';⟨q,hq⟩
  exact d_write I (by rw [e];exact True.intro) hs he (dk_new hl hd (rel.put k rv) dd')
 ·subst ey eH
  cases (show u=Value.ref b from ry)
  obtain ⟨z,hd,xs,rel,dd⟩:=dt_of I.hok e
  have hz:xs.length≤sizeLine:=by rw [← Paired.length rel];exact z
  have hl:(putK kvs k v).length≤sizeLine:=by have:=ah7 kvs k v;omega
  refine wpAny_setItem_heap (hsz:=hz) (tupleKind_room_in1 hu) (key_of I.hok eb) dd fun h' dd' hs=>h _ ?_
  obtain ⟨q,es,ep,hq,h2,h3,h4,_,h5⟩:=dd'
  refine d_write I (by rw [e];exact True.intro) hs ⟨q,hq⟩ ⟨hl,hd,_,(rel.put k eb rv).keeps fun c ys ec=>?_,q,es,ep,hq,h2,h3,h4,h5⟩
  rw [a68 (ah9 ec e (fun z=>nomatch z))]
  exact ec
end
section
variable {X:Cx} {pins:List (Addr×Obj)} {σ:St} {H:Hp} {s:Shared} {a:Addr} {kvs:List (Key×V)} {k:Key} {u:Value} {A:Around} {E:Value->Shared->Prop}
end
def NoSl (i:Expr):Prop:=∀ ov iv,subscripted i false ov iv=operate [ov,iv] (getItem ov iv)
theorem subD_of {prog:Program} {w:World} {A:Around} {E:Value->Shared->Prop} {s:Shared} {env:Env} {value slice:Expr} {pos:Pos} {T id:String} {Q:Value->Shared->Prop}
 (hl:typeLookup (.type T) "__getitem__" = pure (some (.builtin id))) (hs:NoSl slice)
 (h:wpAny (model prog w) A (eval value env) (fun o s₁=>wpAny (model prog w) A (eval slice env) (fun i s₂=>s₂.TypeIs o T/\wpAny (model prog w) A (getItem o i) Q E s₂) E s₁) E s) :
 wpAny (model prog w) A (eval (.Subscript value slice pos) env) Q E s:=by
 refine Subscript_ (wpAny_mono h (fun o s₁ h₁=>wpAny_mono h₁ (fun i s₂ h₂=>?_) fun _ _ x=>x) fun _ _ x=>x)
 obtain ⟨hT,h₂⟩:=h₂
 unfold subscriptTail
 refine wpAny_bind ?_
 rw [getitemInPython_of_ne hT.not_modules]
 refine wpAny_bind (wpAny_specialOf hT hl ?_)
 have fin:wpAny (model prog w) A (subscripted slice false o i) (fun r s₃=>wpAny (model prog w) A (letTemporaryGo value o r >>= fun _=>pure r) Q E s₃) E s₂:=by
  rw [hs o i]
  exact wpAny_operating (wpAny_mono h₂ (fun r s₃ h₃=>wpAny_bind (wpAny_letTemporaryGo (wpAny_pure h₃))) fun _ _ x=>x)
 first
  |exact wpAny_pure (wpAny_bind fin)
  |exact wpAny_bind (wpAny_pure (wpAny_bind fin))
  |exact wpAny_bind fin
theorem dict_typeIs {X:Cx} {pins:List (Addr×Obj)} {σ:St} {H:Hp} {s:Shared} {a:Addr} {y:V} {o:Option V} (I:Inv X pins σ H s) (g:DGet H a y o):s.TypeIs (.ref a) "dict":=by
 rcases g with ⟨kvs,k,e,_,_⟩|⟨kvs,k,b,e,_,_,_⟩
 ·obtain ⟨_,_,vs,_,dd⟩:=dk_rd I.hok e
  exact dd.typeIs
 ·obtain ⟨_,_,xs,_,dd⟩:=dt_rd I.hok e
  exact dd.typeIs
def tDGet (td ty:TE):TE:=fun σ H Q=>td σ H fun x H1=>ty σ H1 fun y H2=>∃ a v,x=.ref a/\DGet H2 a y (some v)/\Q v H2
def sDPut (td ty tv:TE):TS:=fun D σ H=>tv σ H fun v H1=>td σ H1 fun x H2=>ty σ H2 fun y H3=>∃ a H4,x=.ref a/\DPut H3 a y v H4/\D.nx σ H4
section
variable {X:Cx} {o i e value:Expr} {pos pos' tpos:Pos} {td ty tv:TE}
theorem ab7 (hu:X.A.units+1<cLine) (ho:PE X o td) (hi:PE X i ty) (hs:NoSl i):PE X (.Subscript o i pos) (tDGet td ty):=by
 intro pins s σ H Q I h
 refine subD_of PySem.F.slot_dict_getitem.lookup hs (thn (ho pins s σ H _ I h) fun u s1 ⟨x,H1,I1,rx,q1⟩=>thn (hi pins s1 σ H1 _ I1 q1) fun iv s2 ⟨y,H2,I2,ry,a,v,ex,g,q2⟩=>?_)
 subst ex
 obtain rfl:u=Value.ref a:=rx
 exact ⟨dict_typeIs I2 g,d_getItem hu I2 g ry fun w' s3 I3 rw'=>⟨v,H2,I3,rw',q2⟩⟩
theorem am8 (hu:X.A.units+1<cLine) (ho:PE X o td) (hi:PE X i ty) (hv:PE X value tv) (hs:swapsWith value (some (.Subscript o i pos')) pos.line X.env=pure false) :
 PS X (.Assign [.Subscript o i pos'] value pos) (sDPut td ty tv):=by
 intro pins s σ H D I h
 refine wpAny_Assign_Subscript (thn (hv pins s σ H _ I h) fun r s1 ⟨v,H1,I1,rv,q1⟩=>thn (ho pins s1 σ H1 _ I1 q1) fun u s2 ⟨x,H2,I2,rx,q2⟩=>thn (hi pins s2 σ H2 _ I2 q2) fun iv s3 ⟨y,H3,I3,ry,a,H4,ex,g,q3⟩=>?_) hs
 subst ex
 obtain rfl:u=Value.ref a:=rx
 exact d_setItem hu I3 g ry rv fun s4 I4=>⟨σ,H4,I4,q3⟩
end
theorem dk_empty {P:Program} {w:World} {H:Hp} (h:Heap) (hb:sysModules<h.objs.size):ab6 P w H (h.push { cls:=.type "dict",data:=.dict #[] }) h.objs.size (.dK []):=
 ⟨Nat.zero_le _,beq_eq_false_iff_ne.mpr (Ne.symm (Nat.ne_of_lt hb)),[],.nil,Heap.DictOf.new h⟩
section
variable {X:Cx} {pos:Pos}
end
def tPairs:List (TE×TE)->St->Hp->(List (V×V)->Hp->Prop)->Prop
 |[],_,H,Q=>Q [] H
 |(tk,tv)::r,σ,H,Q=>tk σ H fun x H1=>tv σ H1 fun y H2=>tPairs r σ H2 fun ps H3=>Q ((x,y)::ps) H3
abbrev VV:List (V×V)->List (Value×Value)->Prop:=Paired fun p q=>RelV p.1 q.1/\RelV p.2 q.2
def PPs (X:Cx) (pos:Pos) (keys:List (Option Expr)) (values:List Expr) (trs:List (TE×TE)):Prop:=
 ∀ (pins:List (Addr×Obj)) (s:Shared) (σ:St) (H:Hp) (Q:List (V×V)->Hp->Prop),Inv X pins σ H s->tPairs trs σ H Q->
   wpAny (model X.prog X.w) X.A (evalPairs (pairTrees keys values X.env pos)) (fun vs s'=>∃ ps H',Inv X pins σ H' s'/\VV ps vs/\Q ps H') X.xe s
theorem pps_nil {X:Cx} {pos:Pos}:PPs X pos [] [] []:=fun pins s σ H Q I h=>pairTrees_nil_walk ⟨[],H,I,.nil,h⟩
theorem al6 {X:Cx} {pos:Pos} {k v:Expr} {ks:List (Option Expr)} {vs:List Expr} {tk tv:TE} {trs:List (TE×TE)} (hk:PE X k tk) (hv:PE X v tv) (hr:PPs X pos ks vs trs) :
 PPs X pos (some k::ks) (v::vs) ((tk,tv)::trs):=fun pins s σ H Q I h=>
 pairTrees_cons_walk (thn (hk pins s σ H _ I h) fun u s1 ⟨x,H1,I1,rx,q1⟩=>thn (hv pins s1 σ H1 _ I1 q1) fun w2 s2 ⟨y,H2,I2,ry,q2⟩=>
  thn (hr pins s2 σ H2 _ I2 q2) fun ws s3 ⟨ps,H3,I3,rel,q3⟩=>⟨(x,y)::ps,H3,I3,.cons ⟨rx,ry⟩ rel,q3⟩)
def mergeK (kvs more:List (Key×V)):List (Key×V):=more.foldl (fun acc kv=>putK acc kv.1 kv.2) kvs
theorem KV.merge:∀ {more:List (Key×V)} {rs:List (Key×Value)} {kvs:List (Key×V)} {vs:List (Key×Value)},KV more rs->KV kvs vs->KV (mergeK kvs more) (merged vs rs):=by
 intro more rs kvs vs r
 unfold KV at r
 induction r generalizing kvs vs with
 |nil=>intro q;exact q
 | @cons p q ps qs h t ih=>
   intro r0
   have e:KV (putK kvs p.1 p.2) (stored vs q.1 q.2):=by
    have:=r0.put p.1 h.2
    rw [← h.1];exact this
   exact ih e
theorem aj3:∀ (more kvs:List (Key×V)),(mergeK kvs more).length≤kvs.length+more.length
 |[],kvs=>by show kvs.length≤kvs.length+0;omega
 | p::r,kvs=>by
   have h1:=aj3 r (putK kvs p.1 p.2)
   have h2:=ah7 kvs p.1 p.2
   show (mergeK (putK kvs p.1 p.2) r).length≤_
   rw [List.length_cons];omega
theorem ap6 {P:Program} {w:World}:∀ {kvs:List (Key×V)} {ws:List (Value×Value)},VV (kvs.map fun kv=>(kV kv.1,kv.2)) ws->∃ rs,Carries (ab4 P w) ws rs/\KV kvs rs
 |[],_,r=>by rw [List.map_nil] at r;cases r;exact ⟨[],True.intro,.nil⟩
 | p::kvs,_,r=>by
   rw [List.map_cons] at r
   cases r with
   | @cons a b as bs h t=>
     obtain ⟨rs,c,q⟩:=ap6 (P:=P) (w:=w) t
     obtain ⟨b1,b2⟩:=b
     exact ⟨(p.1,b2)::rs,⟨kV_is h.1,rfl,c⟩,.cons ⟨rfl,h.2⟩ q⟩
def tDisp (trs:List (TE×TE)):TE:=fun σ H Q=>∀ p,H p=none->tPairs trs σ (upd H p (.dK [])) fun ps H2=>H2 p=some (.dK [])/\∃ kvs:List (Key×V),ps=kvs.map (fun kv=>(kV kv.1,kv.2))/\kvs.length≤15/\Q (.ref p) (upd H2 p (.dK (mergeK [] kvs)))
theorem pe_disp {X:Cx} {pos:Pos} {keys:List (Option Expr)} {values:List Expr} {trs:List (TE×TE)} (h:PPs X pos keys values trs) (hall:keys.all (·.isSome)=true) (hl:keys.length=values.length) (h0:keys≠[])
 (h15:keys.length≤15):PE X (.Dict keys values pos) (tDisp trs):=by
 intro pins s σ H Q I q
 have hn:=I.hok.fresh (Nat.le_refl s.heap.objs.size)
 have I1:=I.laid (a:=s.heap.objs.size) (o:=.dK []) (h':=s.heap.push { cls:=.type "dict",data:=.dict #[] }) (t':=s.toks) (fun _ _ q=>Heap.get?_push_of_some _ q) (Nat.le_refl _) (dk_empty s.heap I.big)
 refine wpAny_Dict_walk (knd:=ab4 X.prog X.w) hall hl h0 h15 (thn (h pins _ σ _ _ I1 (q _ hn)) fun ws s2 ⟨ps,H2,I2,rel,e,kvs,ep,lk,q2⟩=>?_)
 subst ep
 obtain ⟨rs,c,rk⟩:=ap6 (P:=X.prog) (w:=X.w) rel
 obtain ⟨z,hd,vs0,r0,dd⟩:=dk_of I2.hok e
 cases r0
 refine ⟨rs,c,dd,fun h' dd' hs=>⟨.ref s.heap.objs.size,_,?_,rfl,q2⟩⟩
 have hz:(mergeK [] kvs).length≤sizeLine:=by
  have h1:=aj3 kvs []
  rw [List.length_nil] at h1
  rw [sizeLine_eq];omega
 have he:∃ q,h'.get? s.heap.objs.size=some q:=let ⟨q,_,_,hq,_⟩:=dd';⟨q,hq⟩
 exact d_write I2 (by rw [e];exact True.intro) hs he (dk_new hz hd (rk.merge .nil) dd')
structure M1 (X:Cx) (o:Expr) (m:Str) (apos:Pos) (e:Expr) (cpos:Pos):Prop where
 base:attributeBase o m X.env (eval o X.env)=eval o X.env
 few:((backTo cpos (starEach [e] X.env)).all (fun x=>!x.1) && (backToKw cpos (keywordEach [] X.env)).all (fun x=>x.1.isSome)
  && decide (([e]:List Expr).length+([]:List Keyword).length+(if ([]:List Keyword).isEmpty then 0 else 1)<30))=true
 line:(apos.endLine == cpos.line)=true
 trees:backTo cpos (starEach [e] X.env)=[(false,eval e X.env)]
section
variable {X:Cx} {pins:List (Addr×Obj)} {σ:St} {H:Hp} {s:Shared} {a:Addr} {y d:V} {u r:Value} {o:Option V} {A:Around} {E:Value->Shared->Prop}
end
section
variable {X:Cx} {o e f:Expr} {apos cpos:Pos} {td ty tx:TE}
end
section
variable {X:Cx} {pins:List (Addr×Obj)} {σ:St} {H:Hp} {s:Shared} {a:Addr} {kvs:List (Key×V)} {A:Around} {E:Value->Shared->Prop}
end
section
variable {X:Cx} {pins:List (Addr×Obj)} {σ:St} {H:Hp} {s:Shared} {a:Addr} {y:V} {u:Value} {A:Around} {E:Value->Shared->Prop}
end
end L2
namespace Att
open PySem PySem.W PySem.Calls PyProof.Rows
theorem am4 {P:Params} {h:Heap}:∀ (ns:List Int) (vs:List Value),WellAll P h vs (ns.map WData.int)->IntsAre vs ns:=by
 intro ns
 induction ns with
 | nil=>
   intro vs w
   rw [List.map_nil] at w
   cases w
   exact .nil
 | cons n ns ih=>
   intro vs w
   rw [List.map_cons] at w
   cases w with
   | cons a b=>
     cases a
     exact .cons _ _ (ih _ b)
theorem script_of {l:OpenLaw} {n:Nat} (hn:l.most=some n) {P:Params} {h:Heap} {args:List WData} {vals:List Value}
 (hpre:l.row.toRowW.claim.pre args=true) (hwl:WellAll P h vals args) :
 ∃ a vs ns,vals=[Value.ref a]/\args=[WData.list (ns.map WData.int)]/\h.get? a=some { cls:=.type "list",data:=.seq vs.toArray }/\IntsAre vs ns/\ns.length≤n:=by
 have hsh:WShape.hasAll [] args [.list .int]=true:=(pre_splitW hpre).1
 have hc:l.pre.holds [] { args:=args }=true:=(pre_splitW hpre).2
 obtain ⟨d,r,rfl,h1,h2⟩:=hasAllW_cons hsh
 obtain rfl:=hasAllW_nil h2
 obtain ⟨xs,rfl,h3⟩:=hasW_list h1
 obtain ⟨ns,rfl⟩:=items_int h3
 have hlen:ns.length≤n:=by
  unfold OpenLaw.pre at hc
  have h4:(WTm.not (.lt (.lit (.int (n:Int))) (.len (.arg 0)))).holds [] { args:=[.list (ns.map .int)] }=true:=by
   have h4:=(holds_andW hc).1
   rw [hn] at h4
   exact h4
  have h5:=condW_of h4 (w_not (w_lt w_lit (w_len_list (w_arg rfl))))
  rw [List.length_map] at h5
  refine Nat.le_of_not_lt fun q=>?_
  have q':(n:Int)<((ns.length:Nat):Int):=by omega
  first
   |(rw [decide_eq_true q'] at h5;exact absurd h5 (by decide))
   |(simp at h5;omega)
 cases hwl with
 | cons w1 w2=>
   cases w2
   cases w1 with
   |list ho hall=>exact ⟨_,_,ns,rfl,rfl,ho,am4 ns _ hall,hlen⟩
theorem post_true (l:OpenLaw) (args:List WData):l.row.toRowW.claim.post args (.bool true) args=true:=
 postW_of (r:=l.row.toRowW) (X:=(true == true))
  (show WShape.has [] (.bool true) .bool=true by first|rfl|decide|simp [WShape.has,WShape.arms,WShape.armsAll])
  (show (WTm.eq .res (.lit (.bool true))).value [] { args:=args,res:=some (.bool true),after:=args }=some (.bool (true == true)) from w_eq_bool (w_res rfl) w_lit) rfl
theorem attach_call {l:OpenLaw} {n:Nat} {q:Program} {loose:List Str} {XP:(Str->Option Value)->Heap->Prop} {YP:World->Heap->Prop} {d:DefRec}
 (hn:l.most=some n) (hdf:d.params.defaults=[])
 (call:∀ (w:World) (s₀ s₁:Shared) (mg mb:Str->Option Value) (fa:Addr) (o:Obj) (pm cd doc:Value) (a:Addr) (vs:List Value) (ns:List Int),
  Ground q loose [] XP w s₀ mg mb s₁.heap->YP w s₁.heap->
  s₁.heap.get? fa=some o->o.data=.func (docDef d.name d.params d.body d.scope pm cd doc)->s₁.heap.CodeRec cd d.name->mg d.name=some (.ref fa)->
  s₁.heap.get? a=some { cls:=.type "list",data:=.seq vs.toArray }->IntsAre vs ns->ns.length≤n->s₁.gens=#[]->
  codeAny (model l.prog w) callerA (.call (.ref fa) ⟨[.ref a],[]⟩) (fun r s'=>r=.ok (.ret (.bool true))/\OldK s₁.heap s'.heap/\s'.os=s₁.os/\AllBare s'.gens) s₁) :
 WalkO q loose XP YP l.row.toRowW d [] (fun f vs=>PySem.call f vs):=by
 intro w s₀ s₁ mg mb G Y fa o pm cd doc dV kV ho hd hcd hD hmg hg args vals as hpre hlay hrd hwl hlo
 obtain rfl:dV=.none:=Dflts.none hD hdf
 obtain rfl:kV=.none:=Dflts.noKw hD
 obtain ⟨a,vs,ns,rfl,rfl,hobj,hints,hlen⟩:=script_of hn hpre hwl
 refine enter_call (codeAny_mono (call w s₀ s₁ mg mb fa o pm cd doc a vs ns G Y ho (fd_plain hd) hcd hmg hobj hints hlen hg) fun r s' hq=>?_)
 obtain ⟨rfl,h2,h3,h4⟩:=hq
 exact ⟨.inl ⟨.bool true,.bool true,[],rfl,fun _=>rfl,.bool true,post_true l _,fun _=>⟨List.Pairwise.nil,fun _ hm=>(nomatch hm)⟩⟩,h2,h3,h4⟩
section
variable {prog:Program} {w:World} {A:Around} {E:Value->Shared->Prop} {s:Shared} {K:Frag}
end
end Att
namespace L2
open PySem PySem.Spec PyProof.Rows
theorem vals_ints:∀ {vs:List Value} {ns:List Int},IntsAre vs ns->Vals (ns.map V.int) vs
 |_,_,.nil=>.nil
 |_,_,.cons n t h=>.cons ⟨t,rfl⟩ (vals_ints h)
def inClass (s:Stmt) (j:Nat):Stmt:=match s with
 |.ClassDef _ _ _ body _ _ _ _ _ _ _=>body.getD j (.Pass ⟨0,0,0,0⟩)
 |_=>.Pass ⟨0,0,0,0⟩
def a75 (s:Stmt):Arguments:=match s with
 |.FunctionDef _ a _ _ _ _ _ _ _ _=>a
 |_=>{ posonlyargs:=[],args:=[],vararg:=none,kwonlyargs:=[],kw_defaults:=[],kwarg:=none,defaults:=[] }
def a71 (s:Stmt):List Stmt:=match s with
 |.FunctionDef _ _ b _ _ _ _ _ _ _=>b
 |_=>[]
def a03 (s:Stmt):Scope:=match s with
 |.FunctionDef _ _ _ _ _ _ sc _ _ _=>sc
 |_=>{ kind:=.function,names:=[],isGenerator:=false,isCoroutine:=false }
abbrev CX0:CXT:=fun _ _ _ _ _ _=>False
abbrev E0:XK:=fun _ _ _=>False
theorem a74 {X:Cx}:ae4 CX0 X E0:=fun _ _ _ _ _ _ _ h=>h.elim
structure Fun (K:PySem.W.Frag) (x qual:Str) (st:Stmt) (f:Addr) (fd:FuncData):Prop where
 ex:∃ (oc:Value) (od:Option Addr) (kV doc pm:Value) (an:Option Addr) (cdv ct:Value) (osl:Array (Option Value)),
  fd=PySem.W.fnOf x qual (a75 st) (a71 st) (a03 st) .none kV doc pm an cdv ct/\K.lookup f=some ⟨oc,od,.func fd,osl⟩/\PySem.W.codeIn K cdv qual=true
 kp:PySem.W.keepIn K (.ref f)=true
section
variable {P:Program} {w:World} {K:PySem.W.Frag} {mg:Str->Option Value} {base:Heap}
theorem Fun.ok {x qual:Str} {st:Stmt} {f:Addr} {fd:FuncData} {N ps:List Str} {k:Nat} {sp:Sp} (F:Fun K x qual st f fd) (S:a77 N ps (a03 st)) (len:∀ vs H Q E,sp vs H Q E->vs.length=ps.length)
 (hbody:∀ (cdv:Value) (A:Around) (outer:List Env) (s:Shared) (H:Hp) (vs:List V) (Q:VK) (E:XK),Room k (A.deeper (envOfC qual (a03 st) s.heap.objs.size f cdv))->sp vs H Q E->
  ∃ t,PSs (cxOf CX0 P w K mg base N qual (a03 st) f cdv A outer s H E).nox (a71 st) t/\t { nx:=fun _ H'=>Q .non H',rt:=Q } (start N vs) H):FnOk P w K mg base CX0 (k+1) f fd ps sp:=by
 obtain ⟨oc,od,kV,doc,pm,an,cdv,ct,osl,rfl,lk,hcd⟩:=F.ex
 refine fn_of lk hcd S len fun A outer s H vs Q E hr hsp=>?_
 obtain ⟨t,h,q⟩:=hbody cdv A outer s H vs Q E hr hsp
 exact ⟨t,h.nox,q⟩
theorem Fun.binds {x qual:Str} {st:Stmt} {f:Addr} {fd:FuncData} {ps:List Str} (F:Fun K x qual st f fd)
 (h:∀ (kV doc pm:Value) (an:Option Addr) (cdv ct:Value) (us:List Value),us.length=ps.length->bindArgs (PySem.W.fnOf x qual (a75 st) (a71 st) (a03 st) .none kV doc pm an cdv ct) ⟨us,[]⟩=pure (ps.zip us)):Binds K fd ps []:=by
 obtain ⟨oc,od,kV,doc,pm,an,cdv,ct,osl,rfl,lk,hcd⟩:=F.ex
 exact .all (h kV doc pm an cdv ct)
theorem a83 {x qual:Str} {st:Stmt} {f:Addr} {oc:Value} {od an:Option Addr} {osl:Array (Option Value)} {kV doc pm cdv ct:Value} (l:K.lookup f=some ⟨oc,od,.func (PySem.W.fnOf x qual (a75 st) (a71 st) (a03 st) .none kV doc pm an cdv ct),osl⟩)
 (c:PySem.W.codeIn K cdv qual=true) (k:PySem.W.keepIn K (.ref f)=true):Fun K x qual st f (PySem.W.fnOf x qual (a75 st) (a71 st) (a03 st) .none kV doc pm an cdv ct):=⟨⟨oc,od,kV,doc,pm,an,cdv,ct,osl,rfl,l,c⟩,k⟩
end
theorem hu_of {A:Around} {k:Nat} (hr:Room k A):A.units+1<cLine:=Nat.lt_of_le_of_lt (Nat.add_le_add_left (by decide:1≤64) _) hr.units
theorem aj6 {n:Nat} (h:n≤1000):n<sizeLine:=Nat.lt_of_le_of_lt h (by decide)
section
variable {X:Cx}
theorem pv (i:Nat) {x:Str} {pos:Pos} (hN:X.N[i]?=some x:=by rfl) (hv:Vis X.env.scope x:=by first|exact Or.inl rfl|exact Or.inr (Or.inl rfl)|exact Or.inr (Or.inr rfl)) (hd:(x == ("__debug__" : Str))=false:=by decide)
 (hcd:(x == ("__classdict__" : Str))=false:=by decide):PE X (.Name x pos) (tVar i):=pe_var hN hv hd hcd
end
theorem ite2 {c A B:Prop} [Decidable c] (h1:c->A) (h2:¬ c->B):if c then A else B:=by
 by_cases h:c
 ·rw [if_pos h]
  exact h1 h
 ·rw [if_neg h]
  exact h2 h
def Same (H H':Hp):Prop:=∀ b o,H b=some o->H' b=some o
theorem Same.refl (H:Hp):Same H H:=fun _ _ h=>h
theorem Same.trans {H H1 H2:Hp} (a:Same H H1) (b:Same H1 H2):Same H H2:=fun c o h=>b c o (a c o h)
theorem Same.free {H H':Hp} (e:Same H H') {l:Addr} (h:H' l=Option.none):H l=Option.none:=by
 cases q:H l with
 |none=>rfl
 | some o=>
   rw [e l o q] at h
   cases h
theorem Same.seq {K:PySem.W.Frag} {H H':Hp} {a:Addr} {xs:List V} (e:Same H H') (h:SqL K H a xs):SqL K H' a xs:=by
 rcases h with (h|⟨o,h⟩)|h
 ·exact .inl (.inl (e _ _ h))
 ·exact .inl (.inr ⟨o,e _ _ h⟩)
 ·exact .inr h
section
variable {X:Cx}
end
section
variable {κ:Type} [DecidableEq κ]
theorem nd_snoc:∀ {l:List κ} {k:κ},l.Nodup->¬ k∈l->(l++[k]).Nodup
 |[],k,_,_=>by simp
 | a::r,k,h,hk=>by
   obtain ⟨h1,h2⟩:=List.nodup_cons.mp h
   show (a::(r++[k])).Nodup
   refine List.nodup_cons.mpr ⟨fun m=>?_,nd_snoc h2 fun m=>hk (List.mem_cons.mpr (Or.inr m))⟩
   rcases List.mem_append.mp m with q|q
   ·exact h1 q
   ·exact hk (List.mem_cons.mpr (Or.inl (List.mem_singleton.mp q).symm))
end
theorem ap8 {env:Env} (scope:Scope) (h:∀ y∈scope.names,y.2=.free->∃ c,env.cells.lookup y.1=some c) :
 ∃ cl,closureFor scope env=pure cl/\(∀ x c,cl.lookup x=some c->env.cells.lookup x=some c)/\∀ x,(x,NameKind.free)∈scope.names->∃ c,cl.lookup x=some c:=by
 have go:∀ (names:List (Str×NameKind)) (acc:List (Str×Addr)),(∀ y∈names,y.2=.free->∃ c,env.cells.lookup y.1=some c)->(∀ x c,acc.lookup x=some c->env.cells.lookup x=some c)->
  ∃ cl,(forIn names acc fun x cs=>(match x with
    |(name,kind)=>if kind == NameKind.free then (do let c ← cellOf env name;pure (ForInStep.yield ((name,c)::cs))) else pure (ForInStep.yield cs):Sem (ForInStep (List (Str×Addr)))))=pure cl/\
    (∀ x c,cl.lookup x=some c->env.cells.lookup x=some c)/\(∀ x,(x,NameKind.free)∈names∨(∃ c,acc.lookup x=some c)->∃ c,cl.lookup x=some c):=by
  intro names
  induction names with
  |nil=>intro acc _ ha;exact ⟨acc,rfl,ha,fun x z=>z.elim (fun q=>nomatch q) id⟩
  | cons y r ih=>
    intro acc hy ha
    obtain ⟨n,k⟩:=y
    by_cases hk:k=.free
    ·subst hk
     obtain ⟨c,hc⟩:=hy (n,.free) List.mem_cons_self rfl
     obtain ⟨cl,e,h1,h2⟩:=ih ((n,c)::acc) (fun z hz=>hy z (List.mem_cons_of_mem _ hz)) (fun x c' hx=>by
      rw [List.lookup_cons] at hx
      by_cases q:x == n
      ·rw [q] at hx
       cases hx
       rw [beq_iff_eq.mp q];exact hc
      ·rw [Bool.not_eq_true] at q
       rw [q] at hx
       exact ha x c' hx)
     refine ⟨cl,?_,h1,fun x z=>h2 x ?_⟩
     ·rw [List.forIn_cons]
      simp only [beq_self_eq_true,if_true,cellOf,hc]
      exact e
     ·have aux:∀ x,(∃ c',acc.lookup x=some c')->∃ c',((n,c)::acc).lookup x=some c':=fun x ⟨c',z⟩=>by
       rw [List.lookup_cons]
       by_cases q:x == n
       ·rw [q];exact ⟨_,rfl⟩
       ·rw [Bool.not_eq_true] at q
        rw [q];exact ⟨c',z⟩
      rcases z with z|z
      ·rcases List.mem_cons.mp z with z|z
       ·cases z
        exact .inr ⟨c,by rw [List.lookup_cons,beq_self_eq_true]⟩
       ·exact .inl z
      ·exact .inr (aux x z)
    ·have hb:(k == NameKind.free)=false:=by simpa using hk
     obtain ⟨cl,e,h1,h2⟩:=ih acc (fun z hz=>hy z (List.mem_cons_of_mem _ hz)) ha
     refine ⟨cl,?_,h1,fun x z=>h2 x ?_⟩
     ·rw [List.forIn_cons]
      simp only [hb,Bool.false_eq_true,if_false]
      exact e
     ·rcases z with z|z
      ·rcases List.mem_cons.mp z with z|z
       ·cases z
        exact absurd rfl hk
       ·exact .inl z
      ·exact .inr z
 obtain ⟨cl,e,h1,h2⟩:=go scope.names [] h (fun x c z=>by simp at z)
 refine ⟨cl,?_,h1,fun x z=>h2 x (.inl z)⟩
 unfold closureFor
 exact (congrArg (fun (m:Sem (List (Str×Addr)))=>m >>= fun cs=>pure cs) e).trans rfl
def aa7 (X:Cx) (scope:Scope) (N':List Str) (cl:List (Str×Addr)) (C:Addr) (s₀:Shared) (H₀:Hp) (ex:List Addr):Cx where
 prog:=X.prog
 w:=X.w
 K:=X.K
 mg:=X.mg
 base:=X.base
 A:=X.A
 N:=N'
 s₀:=s₀
 H₀:=H₀
 env:=compEnvC scope cl C X.env
 outer:=X.stack
 stack:=X.stack
 ex:=ex
 fn:=fun _=>false
 calm:=X.calm
 pn:=[]
 xe:=fun _ _=>False
def ak5 (k:Nat) (js:List Nat) (σ:St):St:=List.replicate k none++js.map fun j=>(σ[j]?).join
theorem compSt_len (k:Nat) (js:List Nat) (σ:St):(ak5 k js σ).length=k+js.length:=by simp [ak5]
structure a89 (X:Cx) (scope:Scope) (own:List Str) (js:List Nat) (N':List Str):Prop where
 kind:scope.kind=.function
 nocell:∀ y∈scope.names,y.2≠.cell
 names:∀ y∈scope.names,y.2=.local->scope.names.lookup y.1=some .local
 free:∀ y∈scope.names,y.2=.free->X.env.kindOf y.1=some .cell∨X.env.kindOf y.1=some .free
 nm:N'=own++js.map fun j=>X.N.getD j Str.empty
 fr:∀ j∈js,j<X.N.length/\(X.N.getD j Str.empty,NameKind.free)∈scope.names/\∀ k,(X.N.getD j Str.empty,k)∈scope.names->k=.free
theorem an1 {names:List (Str×NameKind)} {x:Str} (h:(x,NameKind.free)∈names) (u:∀ k,(x,k)∈names->k=.free):names.lookup x=some .free:=by
 induction names with
 |nil=>cases h
 | cons y r ih=>
   obtain ⟨n,k⟩:=y
   rw [List.lookup_cons]
   by_cases q:x == n
   ·rw [q]
    have e:x=n:=beq_iff_eq.mp q
    subst e
    rw [u k List.mem_cons_self]
   ·rw [Bool.not_eq_true] at q
    rw [q]
    refine ih ?_ fun k hk=>u k (List.mem_cons_of_mem _ hk)
    rcases List.mem_cons.mp h with z|z
    ·cases z
     rw [beq_self_eq_true] at q;cases q
    ·exact z
theorem ao3 {scope:Scope} {env:Env} {x:Str} {k:NameKind} (h:(x,k)∈(relabel scope env).names) (hk:k=.cell∨k=.free) (hc:∀ y∈scope.names,y.2≠.cell):(x,NameKind.free)∈scope.names:=by
 unfold relabel at h
 obtain ⟨⟨n,k'⟩,hm,e⟩:=List.mem_map.mp h
 dsimp only at e
 by_cases q:(k' == NameKind.free && env.scope.kind == .function && env.kindOf n == some .cell)=true
 ·rw [if_pos q] at e
  cases e
  rw [Bool.and_eq_true,Bool.and_eq_true] at q
  have:k'=.free:=by simpa using q.1.1
  rw [← this];exact hm
 ·rw [if_neg q] at e
  cases e
  rcases hk with z|z
  ·exact absurd z (hc _ hm)
  ·rw [← z];exact hm
theorem ad3 {env:Env} {x:Str}:∀ {names:List (Str×NameKind)},names.lookup x=some .free->
 (names.map fun (n,k)=>if (k == NameKind.free && env.scope.kind == .function && env.kindOf n == some .cell) then (n,NameKind.cell) else (n,k)).lookup x=some .cell∨
 (names.map fun (n,k)=>if (k == NameKind.free && env.scope.kind == .function && env.kindOf n == some .cell) then (n,NameKind.cell) else (n,k)).lookup x=some .free
 |[],h=>by simp at h
 | (n,k)::r,h=>by
   have ih:=@ad3 env x r
   rw [List.lookup_cons] at h
   rw [List.map_cons]
   dsimp only
   by_cases q:x == n
   ·rw [q] at h
    cases h
    by_cases c:(NameKind.free == NameKind.free && env.scope.kind == .function && env.kindOf n == some .cell)=true
    ·rw [if_pos c,List.lookup_cons,q];exact .inl rfl
    ·rw [if_neg c,List.lookup_cons,q];exact .inr rfl
   ·rw [Bool.not_eq_true] at q
    rw [q] at h
    by_cases c:(k == NameKind.free && env.scope.kind == .function && env.kindOf n == some .cell)=true
    ·rw [if_pos c,List.lookup_cons,q];exact ih h
    ·rw [if_neg c,List.lookup_cons,q];exact ih h
section
variable {X:Cx} {pins:List (Addr×Obj)} {σ:St} {H:Hp} {s:Shared}
theorem Inv.comp {scope:Scope} {own:List Str} {js:List Nat} {N':List Str} {cl:List (Str×Addr)} {C:Addr} {h₁:Heap} {tk:Nat} {fp:List Addr} {m:Str->Option Value} (S:a89 X scope own js N') (I:Inv X pins σ H s)
 (hc1:∀ x c,cl.lookup x=some c->X.env.cells.lookup x=some c) (hc2:∀ x,(x,NameKind.free)∈scope.names->∃ c,cl.lookup x=some c) (hC:s.heap.objs.size≤C) (hns:h₁.Ns C m) (hk:∀ b o,s.heap.get? b=some o->h₁.get? b=some o)
 (hf:∀ b∈fp,FpOk X pins H b/\b<s.heap.objs.size) (hHC:H C=none) (hfree:∀ b o,s.heap.get? b=some o->b≠C) :
 Inv (aa7 X scope N' cl C s H fp) [] (ak5 own.length js σ) H { s with heap:=h₁,toks:=tk }:=by
 have ltx:∀ b o,X.s₀.heap.get? b=some o->b∉X.ex->b∉fp:=fun b o e hx hb=>by
  rcases (hf b hb).1.2.2.2.1 with z|z
  ·exact hx z
  ·exact absurd (Nat.lt_of_lt_of_le (Heap.lt_size e) z) (Nat.lt_irrefl _)
 refine ⟨⟨I.ok.mod,S.kind,I.ok.glob,I.ok.blt,hC,fun x y c h1 h2=>I.ok.inj x y c (hc1 x c h1) (hc1 y c h2),fun x hx=>?_,fun x c z=>(nomatch z),I.ok.hd,I.ok.frames,.inl rfl,fun b hb=>⟨Nat.ne_of_lt (Nat.lt_of_lt_of_le (hf b hb).2 hC),fun x c e=>(hf b hb).1.2.2.2.2.1 x c (hc1 x c e)⟩,I.bs,Nat.le_trans I.ok.bsz I.sz,fun b o e=>ltx b o (I.ok.bs b o e).1 (I.ok.noex b o e),fun b hb z=>?_,I.stack,I.stkFree⟩,
  rfl,I.bare,Un.kept hk,⟨m,hns,fun i x v e1 e2 e3=>?_⟩,fun x c e=>?_,hHC,fun x c e=>I.freeC x c (hc1 x c e),fun p hp=>absurd (show p∈([]:List (Addr×Obj)) from hp) (by simp),I.hok.kept hk,?_⟩
 ·have hx':(relabel scope X.env).names.lookup x=some .cell∨(relabel scope X.env).names.lookup x=some .free:=hx
  rcases hx' with z|z
  ·exact hc2 x (ao3 (PySem.mem_of_lookup z) (.inl rfl) S.nocell)
  ·exact hc2 x (ao3 (PySem.mem_of_lookup z) (.inr rfl) S.nocell)
 ·obtain ⟨_,f1,f2,_⟩:=(hf b hb).1
  rcases List.mem_cons.mp (I.stkSub b z) with q|q
  ·exact f1 q
  ·exact f2 q
 ·
  unfold ak5 at e2
  by_cases hi:i<own.length
  ·rw [List.getElem?_append_left (by simpa using hi),List.getElem?_replicate] at e2
   split at e2 <;> cases e2
  ·rw [List.getElem?_append_right (by simpa using hi),List.length_replicate,List.getElem?_map] at e2
   cases ej:js[i-own.length]? with
   |none=>rw [ej] at e2;cases e2
   | some j=>
     rw [ej] at e2
     have e2':(σ[j]?).join=some v:=by simpa using e2
     have hσ:σ[j]?=some (some v):=by
      cases q:σ[j]? with
      |none=>rw [q] at e2';cases e2'
      |some o=>rw [q] at e2';exact congrArg some e2'
     have hj:=S.fr j (List.mem_of_getElem? ej)
     have hx:x=X.N.getD j Str.empty:=by
      have e1':N'[i]?=some x:=e1
      rw [S.nm,List.getElem?_append_right (by omega),List.getElem?_map,ej] at e1'
      exact (Option.some.inj e1').symm
     have hN:X.N[j]?=some x:=by
      rw [hx,List.getD_eq_getElem?_getD,List.getElem?_eq_getElem hj.1];rfl
     have hfr:scope.names.lookup x=some .free:=by rw [hx];exact an1 hj.2.1 hj.2.2
     have hkx:=S.free (x,.free) (by rw [hx];exact hj.2.1) rfl
     have hvis:Vis X.env.scope x:=hkx.elim (fun z=>.inr (.inl z)) fun z=>.inr (.inr z)
     obtain ⟨mX,hnX,hlX⟩:=I.loc
     obtain ⟨u,r,l⟩:=hlX j x v hN hσ hvis
     refine ⟨u,r,.inr ⟨ad3 hfr,?_⟩⟩
     rcases l with ⟨z,_⟩|⟨_,c,hc,hcell⟩
     ·rcases hkx with q|q
      ·have:=q.symm.trans z;cases this
      ·have:=q.symm.trans z;cases this
     ·obtain ⟨c',hc'⟩:=hc2 x (by rw [hx];exact hj.2.1)
      have:c'=c:=Option.some.inj ((hc1 x c' hc').symm.trans hc)
      subst this
      obtain ⟨o,ho,hd⟩:=hcell
      exact ⟨c',hc',o,hk _ _ ho,hd⟩
 ·obtain ⟨v,o,ho,hd⟩:=I.cell x c (hc1 x c e)
  exact ⟨v,o,hk _ _ ho,hd⟩
 ·rw [compSt_len]
  show _=N'.length
  rw [S.nm];simp
end
def PIfs (Y:Cx) (ifs:List Expr) (t:TT):Prop:=
 ∀ (pins:List (Addr×Obj)) (s:Shared) (σ:St) (H:Hp) (Q:Bool->Hp->Prop),Inv Y pins σ H s->t σ H Q->
   wpAny (model Y.prog Y.w) Y.A (forIn ifs true fun c r=>if r=true then do let ok ← isTrue c Y.env (eval c Y.env);pure (ForInStep.yield ok) else pure (ForInStep.yield r)) (TP Y pins σ Q) Y.xe s
def tYes:TT:=fun _ H Q=>Q true H
theorem ad8 {Y:Cx}:PIfs Y [] tYes:=fun _ _ _ H _ I h=>wpAny_tests_nil ⟨H,I,h⟩
theorem ar7 {Y:Cx} {c:Expr} {t:TT} (h:PT Y c t):PIfs Y [c] t:=fun pins s σ H Q I hw=>wpAny_tests_one (h pins s σ H Q I hw)
abbrev ae9 (us:List Value) (k:Nat):Obj:={ cls:=.type "list",data:=.seq us.toArray k }
def ar3 (J:It) (g:TG) (tt:TT) (te:TE) (F:List V->Hp->Prop) (W:Nat->Nat->List V->St->Hp->Prop):Prop:=
 ∀ i m ys σ H,W i m ys σ H->(J.stop i H/\F ys H)∨(J.go i H/\ys.length<sizeLine/\∀ x H1,J.yld i H x H1->g x σ H1 fun σ2 H2=>tt σ2 H2 fun b H3=>
   if b=true then te σ2 H3 fun y H4=>∃ m',m'<m/\W (i+1) m' (ys++[y]) σ2 H4 else ∃ m',m'<m/\W (i+1) m' ys σ2 H3)
theorem comp_loop {X:Cx} {scope:Scope} {N':List Str} {cl:List (Str×Addr)} {C acc it:Addr} {s₂:Shared} {H₂:Hp} {fp:List Addr} {tn:Nat->Heap->Prop} {J:It} {g:TG} {tt:TT} {te:TE} {F:List V->Hp->Prop}
 {elt tg iter:Expr} {ifs:List Expr} {pos:Pos} {R:Result->Shared->Prop} (W:Nat->Nat->List V->St->Hp->Prop) (turn:ar3 J g tt te F W) (T:Turn X.prog X.w X.K tg J fp it tn)
 (hg:PG (aa7 X scope N' cl C s₂ H₂ fp) tg g) (hc:PIfs (aa7 X scope N' cl C s₂ H₂ fp) ifs tt) (he:PE (aa7 X scope N' cl C s₂ H₂ fp) elt te) (hcalm:X.calm=true)
 (hfp:∀ b∈fp,b≠C/\b∉frs X.stack/\(∀ x c,cl.lookup x=some c->c≠b)/\b≠acc) (hacc:acc≠C/\acc∉frs X.stack/\(∀ x c,cl.lookup x=some c->c≠acc)/\s₂.heap.objs.size≤acc)
 (hR:∀ s' σ' H' ys us k,Inv (aa7 X scope N' cl C s₂ H₂ fp) [(acc,ae9 us k)] σ' H' s'->Vals ys us->F ys H'->R (.ok .next) s')
 {s:Shared} {σ:St} {H:Hp} {m:Nat} (I:Inv (aa7 X scope N' cl C s₂ H₂ fp) [(acc,ae9 [] 0)] σ H s) (st:tn 0 s.heap) (fr:∀ b∈fp,H b=none) (w0:W 0 m [] σ H) :
 codeAny (model X.prog X.w) X.A (.compLoop (.ListComp elt [⟨tg,iter,ifs,0⟩] scope pos) 0 (.ref it) (.ref acc) (compEnvC scope cl C X.env)) R s:=by
 refine codeAny_loop rfl (fun n s'=>∃ i ys us k σ' H',Vals ys us/\Inv (aa7 X scope N' cl C s₂ H₂ fp) [(acc,ae9 us k)] σ' H' s'/\tn i s'.heap/\(∀ b∈fp,H' b=none)/\W i n ys σ' H') (fun n s3 hI=>?_) m ⟨0,[],[],0,σ,H,.nil,I,st,fr,w0⟩
 obtain ⟨i,ys,us,k,σ3,H3,rv,I3,st3,fr3,w3⟩:=hI
 show wpAny _ X.A ((compTurn (.ListComp elt [⟨tg,iter,ifs,0⟩] scope pos) 0 (.ref it) (.ref acc) (compEnvC scope cl C X.env)).onRaise (fun x=>do noteFrame x (compEnvC scope cl C X.env);theTreesLotGoes x)) _ _ s3
 refine wpAny_noted ?_
 rw [compTurn_list]
 have fpk:∀ {pins:List (Addr×Obj)} {H':Hp},(∀ p∈pins,p.1=acc∨p.1∈([]:List Addr))->(∀ b∈fp,H' b=none)->∀ b∈fp,FpOk (aa7 X scope N' cl C s₂ H₂ fp) pins H' b:=fun hp hn b hb=>
  ⟨hn b hb,(hfp b hb).1,(hfp b hb).2.1,.inl hb,(hfp b hb).2.2.1,fun p hp'=>by
   have hp'':p∈([]:List (Addr×Obj))++_:=hp'
   rcases hp p (by simpa using hp'') with z|z
   ·rw [z];exact Ne.symm (hfp b hb).2.2.2
   ·exact (nomatch z)⟩
 have fp1:=fpk (pins:=[(acc,ae9 us k)]) (fun p hp=>.inl (by simp at hp;rw [hp])) fr3
 refine wpAny_bind (wpAny_standAt (wpAny_bind ?_))
 rcases turn i n ys σ3 H3 w3 with ⟨stop,qn⟩|⟨go,hz,step⟩
 ·refine wpAny_mono (T.done (aa7 X scope N' cl C s₂ H₂ fp) rfl rfl rfl hcalm i _ s3 σ3 H3 (fun _ _=>False) I3 fp1 st3 stop) (fun r s4 ⟨hr,I4⟩=>?_) (fun _ _ z=>z.elim)
  subst hr
  exact wpAny_pure (hR s4 σ3 H3 ys us k I4 rv qn)
 ·refine wpAny_mono (T.item (aa7 X scope N' cl C s₂ H₂ fp) rfl rfl rfl hcalm i _ s3 σ3 H3 (fun _ _=>False) I3 fp1 st3 go) (fun r s4 ⟨u,hr,h4⟩=>?_) (fun _ _ z=>z.elim)
  subst hr
  refine wpAny_bind (wpAny_mono h4 (fun _ s5 ⟨x,H5,I5,r5,y5,st5,fr5⟩=>?_) (fun _ _ z=>z.elim))
  have fp5:=fpk (pins:=[(acc,ae9 us k)]) (fun p hp=>.inl (by simp at hp;rw [hp])) fr5
  have I5':=I5.pinned fp5 (T.obj _ _ st5)
  refine wpAny_bind (wpAny_mono (hg _ s5 σ3 H5 x u _ I5' r5 (step x H5 y5)) (fun _ s6 ⟨σ6,H6,I6,q6⟩=>?_) (fun _ _ z=>z.elim))
  refine wpAny_bind (wpAny_mono (hc _ s6 σ6 H6 _ I6 q6) (fun ok s7 ⟨H7,I7,q7⟩=>?_) (fun _ _ z=>z.elim))
  have again:∀ {s8:Shared} {σ8:St} {H8:Hp} {us8:List Value} {k8:Nat} {ys8:List V},Inv (aa7 X scope N' cl C s₂ H₂ fp) ([(acc,ae9 us k)]++pinsAt fp s5.heap) σ8 H8 s8->tn (i+1) s8.heap/\∀ b∈fp,H8 b=none:=fun {s8 σ8 H8 us8 k8 ys8} I8=>
   ⟨T.keep _ _ _ st5 fun b hb o e=>(I8.pin (b,o) (List.mem_append_right _ (List.mem_append_right _ (ah2 hb e)))).1,fun b hb=>by
    obtain ⟨o,e,d⟩:=T.obj _ _ st5 b hb
    exact (I8.pin (b,o) (List.mem_append_right _ (List.mem_append_right _ (ah2 hb e)))).2.1⟩
  cases ok with
  | false=>
    rw [if_neg Bool.false_ne_true] at q7
    obtain ⟨m',hm,w7⟩:=q7
    obtain ⟨t1,t2⟩:=again (us8:=us) (k8:=k) (ys8:=ys) I7
    exact wpAny_pure ⟨rfl,m',hm,i+1,ys,us,k,σ6,H7,rv,I7.unpinned,t1,t2,w7⟩
  | true=>
    rw [if_pos rfl] at q7
    refine wpAny_bind (wpAny_bind (wpAny_mono (he _ s7 σ6 H7 _ I7 q7) (fun y s8 ⟨yv,H8,I8,r8,m',hm,w8⟩=>?_) (fun _ _ z=>z.elim)))
    obtain ⟨t1,t2⟩:=again (us8:=us) (k8:=k) (ys8:=ys) I8
    obtain ⟨e8,n8,l8,f8,d8⟩:=I8.pin (acc,ae9 us k) (List.mem_append_right _ (List.mem_append_left _ List.mem_cons_self))
    have hlen:=rv.length
    have hz':us.toArray.size≤sizeLine:=by rw [List.size_toArray];omega
    refine wpAny_bind (call_meets PySem.F.slot_list_append ⟨_,e8,rfl⟩ PySem.F.entry_list_append (PySem.F.args_list_append_2 _ _) (PySem.list_append acc us.toArray k y hz') ⟨e8,?_⟩)
    have q:=PySem.IsL.update e8 (fun z=>z.push y)
    have I9:Inv (aa7 X scope N' cl C s₂ H₂ fp) [] σ6 H8 s8:=I8.pins_of fun p hp=>(nomatch hp)
    have I10:=I9.turned (t':=s8.toks) (it:=acc) (h':=s8.heap.update acc (Obj.mapSeq fun z=>z.push y)) (fun b o hb e=>(Heap.get?_update_other s8.heap _ (Ne.symm hb)).trans e) n8 hacc.1 (.inr hacc.2.2.2) hacc.2.2.1 (fun p hp=>(nomatch hp))
    have e':(us.toArray.push y)=(us++[y]).toArray:=by simp
    rw [e'] at q
    obtain ⟨k9,ek⟩:∃ k9,k9=(if ((us++[y]).toArray.size == us.toArray.size)=true then k else k+1):=⟨_,rfl⟩
    rw [← ek] at q
    have I11:=I10.pins_of (pins':=[(acc,ae9 (us++[y]) k9)]) fun p hp=>by
     obtain rfl:p=(acc,ae9 (us++[y]) k9):=by simpa using hp
     exact ⟨q,n8,hacc.1,hacc.2.1,fun v z=>by cases z⟩
    refine wpAny_pure (wpAny_pure ⟨rfl,m',hm,i+1,ys++[yv],us++[y],k9,σ6,H8,rv.append (.cons r8 .nil),I11,T.keep _ _ _ t1 fun b hb o e=>?_,t2,w8⟩)
    exact (Heap.get?_update_other s8.heap _ (hfp b hb).2.2.2.symm).trans e
def tComp (wi:TI) (g:TG) (tt:TT) (te:TE) (k:Nat) (js:List Nat):TE:=fun σ H Q=>wi σ H fun J H1=>∃ W:Nat->Nat->List V->St->Hp->Prop,(∃ m,W 0 m [] (ak5 k js σ) H1)/\
 ar3 J g tt te (fun ys H2=>ys.length≤sizeLine/\∀ p,H2 p=none->Q (.ref p) (upd H2 p (.lst ys))) W
section
variable {X:Cx} {scope:Scope} {own:List Str} {js:List Nat} {N':List Str} {wi:TI} {g:TG} {tt:TT} {te:TE} {elt tg iter:Expr} {ifs:List Expr} {pos:Pos}
theorem comp_run {pins:List (Addr×Obj)} {σ:St} {H:Hp} {s:Shared} {it:Addr} {fp:List Addr} {tn:Nat->Heap->Prop} {J:It} {cl:List (Str×Addr)} {F:List V->Hp->Prop} {E:Value->Shared->Prop} {RR:Value->Addr->Result->Shared->Prop}
 (S:a89 X scope own js N') (hcalm:X.calm=true) (hg:∀ cl C s₀ H₀ ex,PG (aa7 X scope N' cl C s₀ H₀ ex) tg g) (hc:∀ cl C s₀ H₀ ex,PIfs (aa7 X scope N' cl C s₀ H₀ ex) ifs tt) (he:∀ cl C s₀ H₀ ex,PE (aa7 X scope N' cl C s₀ H₀ ex) elt te)
 (hc1:∀ x c,cl.lookup x=some c->X.env.cells.lookup x=some c) (hc2:∀ x,(x,NameKind.free)∈scope.names->∃ c,cl.lookup x=some c)
 (I:Inv X pins σ H s) (T:Turn X.prog X.w X.K tg J fp it tn) (st:tn 0 s.heap) (hf:∀ b∈fp,FpOk X pins H b) (W:Nat->Nat->List V->St->Hp->Prop) {m0:Nat} (w0:W 0 m0 [] (ak5 own.length js σ) H) (turn:ar3 J g tt te F W)
 (hF:∀ ys H',F ys H'->ys.length≤sizeLine)
 (fin:∀ acc C H' ys s' m,Inv X pins σ (upd H' acc (.lst ys)) s'->H' acc=none->s'.heap.Ns C m->(upd H' acc (.lst ys)) C=none->C≠X.env.locals->X.s₀.heap.objs.size≤C->(∀ x c,X.env.cells.lookup x=some c->c≠C)->(∀ p∈X.pn++pins,p.1≠C)->F ys H'->RR (.ref acc) C (.ok .next) s') :
 wpAny (model X.prog X.w) X.A (newList []) (fun acc s₃=>wpAny (model X.prog X.w) X.A (newFunctionEnv scope X.env.globals cl [] X.env.qual none .none (some X.env)) (fun cenv s₄=>
  codeAny (model X.prog X.w) X.A (.compStart (.ListComp elt [⟨tg,iter,ifs,0⟩] scope pos) 0 (.ref it) acc { cenv with scope:=relabel scope X.env }) (RR acc cenv.locals) s₄) E s₃) E s:=by
 refine wpAny_newObj_type (wpAny_newFunctionEnv S.nocell (by intro y hy;simp at hy) (fun h₁ hns₁ hsb₁=>?_) S.kind)
 dsimp only at hns₁ hsb₁ ⊢
 generalize hH2:s.heap.push { cls:=.type "list",dict:=none,data:=.seq ([]:List Value).toArray }=H2 at hns₁ hsb₁ ⊢
 have hC:H2.objs.size=s.heap.objs.size+1:=by rw [← hH2,Heap.size_push]
 have hDC:s.heap.objs.size≠H2.objs.size:=by rw [hC];exact Nat.ne_of_lt (Nat.lt_succ_self _)
 have hCle:s.heap.objs.size≤H2.objs.size:=by rw [hC];exact Nat.le_succ _
 have below:∀ b,b<s.heap.objs.size->b≠H2.objs.size/\b≠s.heap.objs.size:=fun b hb=>⟨by rw [hC];exact Nat.ne_of_lt (Nat.lt_succ_of_lt hb),Nat.ne_of_lt hb⟩
 have old:∀ b o,s.heap.get? b=some o->h₁.get? b=some o:=fun b o e=>hsb₁.extBut b o (below b (Heap.lt_size e)).1 (Heap.get?_push_of_some _ (hH2 ▸ Heap.get?_push_of_some _ e))
 have hacc:h₁.get? s.heap.objs.size=some (ae9 [] 0):=hsb₁.extBut _ _ hDC (Heap.get?_push_of_some _ (hH2 ▸ Heap.get?_push_size _ rfl))
 generalize hCn:H2.objs.size=C at *
 generalize hAn:s.heap.objs.size=acc at *
 have cellLt:∀ x c,X.env.cells.lookup x=some c->c<acc:=fun x c e=>by
  obtain ⟨v,q⟩:=I.cell x c e
  rw [← hAn];exact q.lt
 have pinLt:∀ p∈X.pn++pins,p.1<acc:=fun p hp=>by rw [← hAn];exact Heap.lt_size (I.pin p hp).1
 have stkLt:∀ b∈frs X.stack,b<acc:=fun b hb=>by
  obtain ⟨_,o,ho,_⟩:=I.stack.mem hb
  rw [← hAn];exact Heap.lt_size ho
 have fpLt:∀ b∈fp,b<acc:=fun b hb=>by
  obtain ⟨o,e,_⟩:=T.obj _ _ st b hb
  rw [← hAn];exact Heap.lt_size e
 have hHC:H C=none:=I.hok.fresh (by rw [hAn];exact hCle)
 have hHA:H acc=none:=I.hok.fresh (by rw [hAn];exact Nat.le_refl _)
 have I1:Inv (aa7 X scope N' cl C s H fp) [] (ak5 own.length js σ) H { s with heap:=h₁,toks:=s.toks+([]:List (Str×Value)).length }:=
  Inv.comp S I hc1 hc2 (by rw [hAn];exact hCle) hns₁ old (fun b hb=>⟨hf b hb,by rw [hAn];exact fpLt b hb⟩) hHC fun b o e=>(below b (by rw [← hAn];exact Heap.lt_size e)).1
 have I2:Inv (aa7 X scope N' cl C s H fp) [(acc,ae9 [] 0)] (ak5 own.length js σ) H { s with heap:=h₁,toks:=s.toks+([]:List (Str×Value)).length }:=I1.pins_of fun p hp=>by
  obtain rfl:p=(acc,ae9 [] 0):=by simpa using hp
  exact ⟨hacc,hHA,hDC,fun z=>absurd (stkLt acc z) (Nat.lt_irrefl _),fun v z=>by cases z⟩
 have st1:tn 0 h₁:=T.keep _ _ _ st fun b hb o e=>old b o e
 have loop:∀ s₃:Shared,s₃={ s with heap:=h₁,toks:=s.toks+([]:List (Str×Value)).length }->
  codeAny (model X.prog X.w) X.A (.compLoop (.ListComp elt [⟨tg,iter,ifs,0⟩] scope pos) 0 (.ref it) (.ref acc) (compEnvC scope cl C X.env)) (RR (.ref acc) C) s₃:=by
  rintro s₃ rfl
  refine comp_loop W turn T (hg _ _ _ _ _) (hc _ _ _ _ _) (he _ _ _ _ _) hcalm
   (fun b hb=>⟨(below b (fpLt b hb)).1,fun z=>?_,fun x c e z=>(hf b hb).2.2.2.2.1 x c (hc1 x c e) z,(below b (fpLt b hb)).2⟩)
   ⟨hDC,fun z=>absurd (stkLt acc z) (Nat.lt_irrefl _),fun x c e z=>absurd (cellLt x c (hc1 x c e)) (by rw [z];exact Nat.lt_irrefl _),by rw [hAn];exact Nat.le_refl _⟩ ?_ I2 st1 (fun b hb=>(hf b hb).1) w0
  ·rcases List.mem_cons.mp (I.stkSub b z) with q|q
   ·exact (hf b hb).2.1 q
   ·exact (hf b hb).2.2.1 q
  ·intro s' σ' H' ys us k J' rv q
   obtain ⟨e',n',l',f',d'⟩:=J'.pin (acc,ae9 us k) (List.mem_append_right _ List.mem_cons_self)
   have n'':H' acc=none:=n'
   obtain ⟨m,hm,_⟩:=J'.loc
   have oldLt:∀ b o,s.heap.get? b=some o->b<acc:=fun b o e=>by rw [← hAn];exact Heap.lt_size e
   have neA:∀ b o,s.heap.get? b=some o->b≠acc:=fun b o e=>Nat.ne_of_lt (oldLt b o e)
   have un:Un (frs X.stack) fp H (upd H' acc (.lst ys)) s.heap s'.heap:=⟨J'.base.keep,J'.base.slot,fun b o e n hx=>by rw [a68 (neA b o e)];exact J'.base.free b o e n hx,J'.base.there,
    fun b xs e=>by
     have z:=J'.base.tups b xs e
     rw [a68 (a70 z n'')];exact z,
    fun b o u e=>by
     have z:=J'.base.frzs b o u e
     rw [a68 (a70 z n'')];exact z,
    fun b ps e=>by
     obtain ⟨more,z⟩:=J'.base.tbls b ps e
     exact ⟨more,by rw [a68 (a70 z n'')];exact z⟩⟩
   have hok:HOk X.prog X.w (upd H' acc (.lst ys)) s'.heap:=fun b u e=>by
    by_cases hb:b=acc
    ·subst hb
     rw [a02] at e;cases e
     exact ⟨hF _ _ q,us,k,rv,e'⟩
    ·rw [a68 hb] at e
     exact (J'.hok b u e).stay (fun c v _ z=>z) (fun c z=>by rw [a68 (a70 z n'')];exact z) fun c xs z=>by rw [a68 (a70 z n'')];exact z
   have IX:Inv X pins σ (upd H' acc (.lst ys)) s':=I.call' J'.os un hok J'.bare fun b hb=>⟨(hf b hb).2.2.2.1,(hf b hb).2.1,(hf b hb).2.2.2.2.1,(hf b hb).2.2.2.2.2⟩
   refine fin acc C H' ys s' m IX n'' hm ?_ ?_ ?_ ?_ ?_ q
   ·rw [a68 (Ne.symm hDC)];exact J'.free
   ·exact Nat.ne_of_gt (Nat.lt_of_lt_of_le I.lt (by rw [hAn];exact hCle))
   ·exact Nat.le_trans I.sz (by rw [hAn];exact hCle)
   ·exact fun x c e z=>absurd (Nat.lt_of_lt_of_le (cellLt x c e) hCle) (by rw [z];exact Nat.lt_irrefl _)
   ·exact fun p hp z=>absurd (Nat.lt_of_lt_of_le (pinLt p hp) hCle) (by rw [z];exact Nat.lt_irrefl _)
 exact codeAny_compStart_list (loop _ rfl) (T.self _ 0 _ _ _ st1 (loop _ rfl))
theorem ak0 (S:a89 X scope own js N') (hcalm:X.calm=true) (hi:PI X tg iter wi) (hg:∀ cl C s₀ H₀ ex,PG (aa7 X scope N' cl C s₀ H₀ ex) tg g) (hc:∀ cl C s₀ H₀ ex,PIfs (aa7 X scope N' cl C s₀ H₀ ex) ifs tt)
 (he:∀ cl C s₀ H₀ ex,PE (aa7 X scope N' cl C s₀ H₀ ex) elt te) (hs:∀ x,foldedSetIterable iter X.env x=pure x:=by intro _;rfl):PE X (.ListComp elt [⟨tg,iter,ifs,0⟩] scope pos) (tComp wi g tt te own.length js):=by
 intro pins s σ H Q I h
 obtain ⟨cl,hcl,hc1,hc2⟩:=ap8 (env:=X.env) scope fun y hy hk=>I.ok.has y.1 (S.free y hy hk)
 rw [eval_ListComp]
 refine wpAny_comprehension_free (use:=none) rfl hs hcl S.kind S.names (thn (hi pins s σ H _ I h) fun v s1 h1=>thn h1 fun itv s2 h2=>?_)
 obtain ⟨it,fp,tn,J,H2,e,I2,T,st2,f2,W,⟨m0,w0⟩,turn⟩:=h2
 subst e
 refine comp_run (RR:=fun acc C=>compPost (model X.prog X.w) X.A X.xe none (EP X pins σ Q) acc C) S hcalm hg hc he hc1 hc2 I2 T st2 f2 W w0 turn (fun ys H' q=>q.1) ?_
 intro acc C H' ys s' m IX na hm hCn hL hz hcn hpn q
 refine ⟨m,hm,fun h' hs'=>⟨.ref acc,_,?_,rfl,q.2 acc na⟩⟩
 exact IX.turned (t':=s'.toks) (it:=C) (fun b o hb e=>(hs'.2 b hb).trans e) hCn hL (.inr hz) hcn hpn
theorem af0 {i:Nat} {x:Str} {pos' spos:Pos} (S:a89 X scope own js N') (hcalm:X.calm=true) (hN:X.N.Nodup) (hx:X.N[i]?=some x) (hk:X.env.scope.names.lookup x=some .local) (hi:PI X tg iter wi) (hg:∀ cl C s₀ H₀ ex,PG (aa7 X scope N' cl C s₀ H₀ ex) tg g) (hc:∀ cl C s₀ H₀ ex,PIfs (aa7 X scope N' cl C s₀ H₀ ex) ifs tt)
 (he:∀ cl C s₀ H₀ ex,PE (aa7 X scope N' cl C s₀ H₀ ex) elt te) (hsw:swapsWith (.ListComp elt [⟨tg,iter,ifs,0⟩] scope pos) (some (.Name x pos')) spos.line X.env=pure true:=by rfl) (hs:∀ x,foldedSetIterable iter X.env x=pure x:=by intro _;rfl) :
 PS X (.Assign [.Name x pos'] (.ListComp elt [⟨tg,iter,ifs,0⟩] scope pos) spos) (tAsg (tComp wi g tt te own.length js) (af9 i)):=by
 intro pins s σ H D I h
 obtain ⟨cl,hcl,hc1,hc2⟩:=ap8 (env:=X.env) scope fun y hy hk=>I.ok.has y.1 (S.free y hy hk)
 rw [exec_Assign_Name_used _ _ _ _ hsw]
 refine wpAny_bind (wpAny_standAt (wpAny_bind ?_))
 show wpAny _ X.A (do let _ ← comprehension (.ListComp elt [⟨tg,iter,ifs,0⟩] scope pos) scope X.env _ (newList []) false (eval iter X.env) (some (assign (.Name x pos') X.env))) _ _ s
 refine wpAny_bind (wpAny_mono (wpAny_comprehension_free (use:=some (assign (.Name x pos') X.env)) (Q:=fun _ s'=>SP X pins D .next s') rfl hs hcl S.kind S.names
  (thn (hi pins s σ H _ I h) fun v s1 h1=>thn h1 fun itv s2 h2=>?_)) (fun _ s' hq=>wpAny_pure (wpAny_pure hq)) fun _ _ e=>e)
 obtain ⟨it,fp,tn,J,H2,e,I2,T,st2,f2,W,⟨m0,w0⟩,turn⟩:=h2
 subst e
 refine comp_run (RR:=fun acc C=>compPost (model X.prog X.w) X.A X.xe (some (assign (.Name x pos') X.env)) (fun _ s'=>SP X pins D .next s') acc C) S hcalm hg hc he hc1 hc2 I2 T st2 f2 W w0 turn (fun ys H' q=>q.1) ?_
 intro acc C H' ys s' m IX na hm hCn hL hz hcn hpn q
 show wpAny _ X.A (assign (.Name x pos') X.env (.ref acc)) _ _ s'
 refine wpAny_assign_Name (store_ok2 IX hN hx (.inl hk) (v:=.ref acc) rfl (fun s'' I'' hsb=>?_) (.inr hk))
 obtain ⟨a,hsb,ha⟩:=hsb
 have haC:C≠a:=by
  rcases ha with z|z
  ·rw [z];exact hL
  ·exact fun q=>hcn x a z q.symm
 refine ⟨m,hm.sameBut hsb haC,fun h' hs'=>⟨_,_,?_,q.2 acc na⟩⟩
 exact I''.turned (t':=s''.toks) (it:=C) (fun b o hb e=>(hs'.2 b hb).trans e) hCn hL (.inr hz) hcn hpn
end
section
variable {X:Cx}
def CDivW (i j:Int):Prop:=0<j/\j<340282366920938463463374607431768211456
theorem op_fdivW:OpR X (binaryOp .FloorDiv) (rI CDivW fun i j=>.int (i / j)):=opI fun i j _ _ _ _ _ hc q=>by
 rw [← Int.fdiv_eq_ediv_of_nonneg i (Int.le_of_lt hc.1)] at q
 have h1:(0:Int)<j:=hc.1
 have h2:j<340282366920938463463374607431768211456:=hc.2
 have hb:j.natAbs<340282366920938463463374607431768211456:=by omega
 have he:(2:Nat) ^ 128=340282366920938463463374607431768211456:=by decide +kernel
 have hl:j.natAbs.log2<128:=(Nat.log2_lt (by omega)).mpr (Nat.lt_of_lt_of_eq hb he.symm)
 exact floordiv_int (by have:=hc.1;omega) q (.inl (PyProof.noPylong_of_log2 (by omega)))
theorem ak3 {lo:Int} {n:Nat} {g:TG} {te:TE} {F:List V->Hp->Prop} {σ0:St} {H0:Hp} (Pv:Nat->List V->St->Hp->Prop) (hn:n≤sizeLine) (h0:Pv 0 [] σ0 H0)
 (hs:∀ i ys σ H,i<n->ys.length=i->Pv i ys σ H->∀ N:List V->St->Hp->Prop,(∀ ys' σ' H',ys'.length=i+1->Pv (i+1) ys' σ' H'->N ys' σ' H')->g (.int (lo+i)) σ H fun σ2 H2=>te σ2 H2 fun y H3=>N (ys++[y]) σ2 H3)
 (hd:∀ ys σ H,ys.length=n->Pv n ys σ H->F ys H) :
 ∃ W:Nat->Nat->List V->St->Hp->Prop,(∃ m,W 0 m [] σ0 H0)/\ar3 (Itr lo n) g tYes te F W:=by
 refine ⟨fun i m ys σ H=>m=n-i/\i≤n/\ys.length=i/\Pv i ys σ H,⟨n,by simp,Nat.zero_le _,rfl,h0⟩,?_⟩
 rintro i m ys σ H ⟨rfl,hi,hl,p⟩
 by_cases hlt:i<n
 ·refine .inr ⟨hlt,by omega,fun x H' y=>?_⟩
  obtain ⟨e,y⟩:=y
  subst e y
  exact hs i ys σ _ hlt hl p (fun ys' σ' H'=>∃ m',m'<n-i/\m'=n-(i+1)/\i+1≤n/\ys'.length=i+1/\Pv (i+1) ys' σ' H') fun ys' σ' H' hl' q=>⟨n-(i+1),by omega,rfl,hlt,hl',q⟩
 ·have e:i=n:=by omega
  subst e
  exact .inl ⟨Nat.le_refl _,hd ys σ H hl p⟩
theorem comp_list {K:PySem.W.Frag} {a:Addr} {xs:List V} {g:TG} {te:TE} {F:List V->Hp->Prop} {σ0:St} {H0:Hp} (Pv:Nat->List V->St->Hp->Prop) (hn:xs.length≤sizeLine) (h0:Pv 0 [] σ0 H0) (hq:∀ i ys σ H,i≤xs.length->Pv i ys σ H->SqL K H a xs)
 (hs:∀ i x ys σ H,xs[i]?=some x->ys.length=i->Pv i ys σ H->∀ N:List V->St->Hp->Prop,(∀ ys' σ' H',ys'.length=i+1->Pv (i+1) ys' σ' H'->N ys' σ' H')->g x σ H fun σ2 H2=>te σ2 H2 fun y H3=>N (ys++[y]) σ2 H3)
 (hd:∀ ys σ H,ys.length=xs.length->Pv xs.length ys σ H->F ys H) :
 ∃ W:Nat->Nat->List V->St->Hp->Prop,(∃ m,W 0 m [] σ0 H0)/\ar3 (Itl K a) g tYes te F W:=by
 refine ⟨fun i m ys σ H=>m=xs.length-i/\i≤xs.length/\ys.length=i/\Pv i ys σ H,⟨xs.length,by simp,Nat.zero_le _,rfl,h0⟩,?_⟩
 rintro i m ys σ H ⟨rfl,hi,hl,p⟩
 have q:=hq i ys σ H hi p
 by_cases hlt:i<xs.length
 ·refine .inr ⟨⟨xs,xs[i],q,by simp [hlt]⟩,by omega,fun x H' y=>?_⟩
  obtain ⟨e,y⟩:=y
  subst e
  exact hs i x ys σ _ (y xs q) hl p (fun ys' σ' H'=>∃ m',m'<xs.length-i/\m'=xs.length-(i+1)/\i+1≤xs.length/\ys'.length=i+1/\Pv (i+1) ys' σ' H') fun ys' σ' H' hl' q=>⟨xs.length-(i+1),by omega,rfl,hlt,hl',q⟩
 ·have e:i=xs.length:=by omega
  subst e
  exact .inl ⟨⟨xs,q,Nat.le_refl _⟩,hd ys σ H hl p⟩
theorem ai6 {K:PySem.W.Frag} {a:Addr} {xs:List V} {g:TG} {te:TE} {F:List V->Hp->Prop} {σ0:St} {H0:Hp} (Pv:Nat->List V->St->Hp->Prop) (hn:xs.length≤sizeLine) (h0:Pv 0 [] σ0 H0) (hq:∀ i ys σ H,i≤xs.length->Pv i ys σ H->SqT K H a xs)
 (hs:∀ i x ys σ H,xs[i]?=some x->ys.length=i->Pv i ys σ H->∀ N:List V->St->Hp->Prop,(∀ ys' σ' H',ys'.length=i+1->Pv (i+1) ys' σ' H'->N ys' σ' H')->g x σ H fun σ2 H2=>te σ2 H2 fun y H3=>N (ys++[y]) σ2 H3)
 (hd:∀ ys σ H,ys.length=xs.length->Pv xs.length ys σ H->F ys H) :
 ∃ W:Nat->Nat->List V->St->Hp->Prop,(∃ m,W 0 m [] σ0 H0)/\ar3 (Itt K a) g tYes te F W:=by
 refine ⟨fun i m ys σ H=>m=xs.length-i/\i≤xs.length/\ys.length=i/\Pv i ys σ H,⟨xs.length,by simp,Nat.zero_le _,rfl,h0⟩,?_⟩
 rintro i m ys σ H ⟨rfl,hi,hl,p⟩
 have q:=hq i ys σ H hi p
 by_cases hlt:i<xs.length
 ·refine .inr ⟨⟨xs,xs[i],q,by simp [hlt]⟩,by omega,fun x H' y=>?_⟩
  obtain ⟨e,y⟩:=y
  subst e
  exact hs i x ys σ _ (y xs q) hl p (fun ys' σ' H'=>∃ m',m'<xs.length-i/\m'=xs.length-(i+1)/\i+1≤xs.length/\ys'.length=i+1/\Pv (i+1) ys' σ' H') fun ys' σ' H' hl' q=>⟨xs.length-(i+1),by omega,rfl,hlt,hl',q⟩
 ·have e:i=xs.length:=by omega
  subst e
  exact .inl ⟨⟨xs,q,Nat.le_refl _⟩,hd ys σ H hl p⟩
structure Def (K:PySem.W.Frag) (mg:Str->Option Value) (x:Str) (st:Stmt) (ps:List Str) (f:Addr) (fd:FuncData):Prop where
 F:Fun K x x st f fd
 mg:mg x=some (.ref f)
 b:Binds K fd ps []
def But (p:Addr) (H H':Hp):Prop:=∀ b o,H b=some o->b≠p->H' b=some o
theorem But.refl {p:Addr} {H:Hp}:But p H H:=fun _ _ h _=>h
theorem But.trans {p:Addr} {H H1 H2:Hp} (a:But p H H1) (b:But p H1 H2):But p H H2:=fun c o h hc=>b c o (a c o h hc) hc
theorem But.upd {p:Addr} {H:Hp} {o:HO}:But p H (upd H p o):=fun b u h hb=>by rw [a68 hb];exact h
theorem But.new {p q:Addr} {H:Hp} {o:HO} (h:H q=none):But p H (L2.upd H q o):=fun b u e _=>by rw [a68 (a70 e h)];exact e
end
theorem al3 {t u:TS} {D:Ends} {σ:St} {H:Hp} (M:St->Hp->Prop) (h2:∀ σ' H',M σ' H'->u D σ' H') (h1:∀ N:St->Hp->Prop,(∀ σ' H',M σ' H'->N σ' H')->t { D with nx:=N } σ H):tSeq t u D σ H:=h1 (u D) h2
theorem Same.new {H:Hp} {q:Addr} {o:HO} (h:H q=none):Same H (upd H q o):=fun b u e=>by rw [a68 (a70 e h)];exact e
theorem Same.but {H H':Hp} {p:Addr} (h:Same H H'):But p H H':=fun b o e _=>h b o e
theorem Same.tup {K:PySem.W.Frag} {H H':Hp} {a:Addr} {xs:List V} (e:Same H H') (h:SqT K H a xs):SqT K H' a xs:=by
 rcases h with (h|⟨o,h⟩)|h
 ·exact .inl (.inl (e _ _ h))
 ·exact .inl (.inr ⟨o,e _ _ h⟩)
 ·exact .inr h
theorem a86:bootBuiltins "len" = some (.builtin "len"):=by decide +kernel
theorem ar8:bootBuiltins "list" = some (.type "list"):=by decide +kernel
theorem ac2:bootBuiltins "tuple" = some (.type "tuple"):=by decide +kernel
theorem al5:bootBuiltins "str" = some (.type "str"):=by decide +kernel
theorem ao2:bootBuiltins "int" = some (.type "int"):=by decide +kernel
theorem am6:bootBuiltins "bool" = some (.type "bool"):=by decide +kernel
theorem bt_min:bootBuiltins "min" = some (.builtin "min"):=by decide +kernel
theorem bt_max:bootBuiltins "max" = some (.builtin "max"):=by decide +kernel
theorem bt_all:bootBuiltins "all" = some (.builtin "all"):=by decide +kernel
theorem bt_any:bootBuiltins "any" = some (.builtin "any"):=by decide +kernel
theorem a76:bootBuiltins "isinstance" = some (.builtin "isinstance"):=by decide +kernel
theorem bt_sum:bootBuiltins "sum" = some (.builtin "sum"):=by decide +kernel
end L2
namespace L2
open PySem PySem.Spec PyProof.Rows PySem.SeqAt
mutual
inductive Rep (K:PySem.W.Frag) (H:Hp):V->PyData->Prop
 |non:Rep K H .non .none
 |bl (b:Bool):Rep K H (.bl b) (.bool b)
 |int (i:Int):Rep K H (.int i) (.int i)
 |str (x:Str):Rep K H (.str x) (.str x)
 |tup {a:Addr} {xs:List V} {ds:List PyData}:SqT K H a xs->Reps K H xs ds->Rep K H (.ref a) (.tuple ds)
 |lst {a:Addr} {xs:List V} {ds:List PyData}:SqL K H a xs->Reps K H xs ds->Rep K H (.ref a) (.list ds)
inductive Reps (K:PySem.W.Frag) (H:Hp):List V->List PyData->Prop
 |nil:Reps K H [] []
 |cons {x:V} {d:PyData} {xs:List V} {ds:List PyData}:Rep K H x d->Reps K H xs ds->Reps K H (x::xs) (d::ds)
end
section
variable {K:PySem.W.Frag} {H H':Hp}
theorem Reps.length:∀ {xs:List V} {ds:List PyData},Reps K H xs ds->xs.length=ds.length
 |_,_,.nil=>rfl
 |_,_,.cons _ t=>by rw [List.length_cons,List.length_cons,Reps.length t]
mutual
theorem Rep.map (f1:∀ a xs,SqT K H a xs->SqT K H' a xs) (f2:∀ a xs,SqL K H a xs->SqL K H' a xs):∀ {v:V} {d:PyData},Rep K H v d->Rep K H' v d
 |_,_,.non=>.non
 |_,_,.bl b=>.bl b
 |_,_,.int i=>.int i
 |_,_,.str x=>.str x
 |_,_,.tup h r=>.tup (f1 _ _ h) (Reps.map f1 f2 r)
 |_,_,.lst h r=>.lst (f2 _ _ h) (Reps.map f1 f2 r)
theorem Reps.map (f1:∀ a xs,SqT K H a xs->SqT K H' a xs) (f2:∀ a xs,SqL K H a xs->SqL K H' a xs):∀ {v:List V} {d:List PyData},Reps K H v d->Reps K H' v d
 |_,_,.nil=>.nil
 |_,_,.cons h r=>.cons (Rep.map f1 f2 h) (Reps.map f1 f2 r)
end
theorem Rep.same {v:V} {d:PyData} (h:Rep K H v d) (e:Same H H'):Rep K H' v d:=h.map (fun _ _ z=>e.tup z) (fun _ _ z=>e.seq z)
theorem Reps.same {v:List V} {d:List PyData} (h:Reps K H v d) (e:Same H H'):Reps K H' v d:=h.map (fun _ _ z=>e.tup z) (fun _ _ z=>e.seq z)
theorem But.seq {p a:Addr} {xs:List V} {kvs:List (Key×V)} (e:But p H H') (hp:H p=some (.dK kvs)) (h:SqL K H a xs):SqL K H' a xs:=by
 rcases h with (h|⟨o,h⟩)|h
 ·exact .inl (.inl (e _ _ h (ah9 h hp (by intro z;cases z))))
 ·exact .inl (.inr ⟨o,e _ _ h (ah9 h hp (by intro z;cases z))⟩)
 ·exact .inr h
theorem But.tup {p a:Addr} {xs:List V} {kvs:List (Key×V)} (e:But p H H') (hp:H p=some (.dK kvs)) (h:SqT K H a xs):SqT K H' a xs:=by
 rcases h with (h|⟨o,h⟩)|h
 ·exact .inl (.inl (e _ _ h (ah9 h hp (by intro z;cases z))))
 ·exact .inl (.inr ⟨o,e _ _ h (ah9 h hp (by intro z;cases z))⟩)
 ·exact .inr h
theorem Rep.but {p:Addr} {kvs:List (Key×V)} {v:V} {d:PyData} (h:Rep K H v d) (e:But p H H') (hp:H p=some (.dK kvs)):Rep K H' v d:=h.map (fun _ _ z=>e.tup hp z) (fun _ _ z=>e.seq hp z)
theorem Reps.but {p:Addr} {kvs:List (Key×V)} {v:List V} {d:List PyData} (h:Reps K H v d) (e:But p H H') (hp:H p=some (.dK kvs)):Reps K H' v d:=h.map (fun _ _ z=>e.tup hp z) (fun _ _ z=>e.seq hp z)
theorem Reps.get':∀ {xs:List V} {ds:List PyData} {i:Nat} {x:V},Reps K H xs ds->xs[i]?=some x->∃ d,ds[i]?=some d/\Rep K H x d
 |_,_,_,_,.nil,e=>by simp at e
 |_,_,0,_,.cons r _,e=>by simp at e;subst e;exact ⟨_,rfl,r⟩
 | _,_,i+1,d,.cons _ t,e=>by
   obtain ⟨u,h1,h2⟩:=Reps.get' (i:=i) (x:=d) t (by simpa using e)
   exact ⟨u,by simpa using h1,h2⟩
end
section
variable {X:Cx} {pins:List (Addr×Obj)} {σ:St} {H:Hp} {s:Shared}
end
mutual
def pdEq:PyData->PyData->Bool
 |.none,.none=>true
 |.bool a,.bool b=>a == b
 |.bool a,.int b=>(if a then 1 else 0) == b
 |.int a,.bool b=>a == (if b then 1 else 0)
 |.int a,.int b=>a == b
 |.str a,.str b=>a == b
 |.tuple a,.tuple b=>af1 a b
 |.list a,.list b=>af1 a b
 |_,_=>false
def af1:List PyData->List PyData->Bool
 |[],[]=>true
 |a::r,b::t=>pdEq a b && af1 r t
 |_,_=>false
end
theorem pdEqs_iff:∀ (ds es:List PyData),af1 ds es=((List.range (min ds.length es.length)).all (fun j=>pdEq (ds.getD j .none) (es.getD j .none)) && ds.length == es.length)
 |[],[]=>by simp [af1]
 |[],_::_=>by simp [af1]
 |_::_,[]=>by simp [af1]
 | a::r,b::t=>by
   rw [af1,pdEqs_iff r t,List.length_cons,List.length_cons,Nat.succ_min_succ,List.range_succ_eq_map,List.all_cons,List.all_map]
   simp only [List.getD_cons_zero,Bool.and_assoc]
   congr 1
   have e:(r.length+1 == t.length+1)=(r.length == t.length):=by
    rw [Bool.eq_iff_iff];simp
   rw [e]
   congr 1
mutual
def a99:PyData->Nat
 |.tuple xs=>a95 xs+1
 |.list xs=>a95 xs+1
 |_=>0
def a95:List PyData->Nat
 |[]=>0
 |d::r=>max (a99 d) (a95 r)
end
section
variable {X:Cx} {pins:List (Addr×Obj)} {σ:St} {H:Hp} {s:Shared}
mutual
theorem Rep.fn (I:Inv X pins σ H s):∀ {v:V} {d e:PyData} {u:Value},Rep X.K H v d->Rep X.K H v e->RelV v u->d=e/\pdEq d d=true
 |_,_,_,_,.non,.non,_=>⟨rfl,rfl⟩
 |_,_,_,_,.bl b,.bl _,_=>⟨rfl,by simp [pdEq]⟩
 |_,_,_,_,.int i,.int _,_=>⟨rfl,by simp [pdEq]⟩
 |_,_,_,_,.str x,.str _,_=>⟨rfl,by simp [pdEq]⟩
 | _,_,_,_,.tup h1 r1,.tup h2 r2,r=>by
   have e:=I.tuple_inj h1 h2
   subst e
   obtain ⟨its,rv,_,_⟩:=I.tuple h1
   obtain ⟨e,q⟩:=Reps.fn I r1 r2 rv
   exact ⟨by rw [e],q⟩
 | _,_,_,_,.lst h1 r1,.lst h2 r2,r=>by
   have e:=I.list_inj h1 h2
   subst e
   obtain ⟨its,rv,_,_⟩:=I.list h1
   obtain ⟨e,q⟩:=Reps.fn I r1 r2 rv
   exact ⟨by rw [e],q⟩
 | _,_,_,_,.tup h1 _,.lst h2 _,r=>by
   obtain ⟨_,_,⟨o,e1,c1,_⟩,_⟩:=I.tuple h1
   obtain ⟨_,_,⟨o',n,e2,c2,_⟩,_⟩:=I.list h2
   rw [e1] at e2;cases e2
   rw [c1] at c2;injection c2 with z;exact absurd z (by decide)
 | _,_,_,_,.lst h2 _,.tup h1 _,r=>by
   obtain ⟨_,_,⟨o,e1,c1,_⟩,_⟩:=I.tuple h1
   obtain ⟨_,_,⟨o',n,e2,c2,_⟩,_⟩:=I.list h2
   rw [e1] at e2;cases e2
   rw [c1] at c2;injection c2 with z;exact absurd z (by decide)
theorem Reps.fn (I:Inv X pins σ H s):∀ {v:List V} {d e:List PyData} {u:List Value},Reps X.K H v d->Reps X.K H v e->Vals v u->d=e/\af1 d d=true
 |_,_,_,_,.nil,.nil,_=>⟨rfl,rfl⟩
 | _,_,_,_,.cons a b,.cons c d,.cons r rs=>by
   obtain ⟨e1,q1⟩:=Rep.fn I a c r
   obtain ⟨e2,q2⟩:=Reps.fn I b d rs
   exact ⟨by rw [e1,e2],by simp [af1,q1,q2]⟩
end
theorem allEq {vs ws:List V} {ds es:List PyData} {us xs:List Value} {A:Around} (rs1:Reps X.K H vs ds) (rs2:Reps X.K H ws es) (rv1:Vals vs us) (rv2:Vals ws xs) :
 ((List.range (min us.toArray.size xs.toArray.size)).all (fun j=>pdEq (ds.getD j .none) (es.getD j .none)) && us.toArray.size == xs.toArray.size)=af1 ds es:=by
 rw [pdEqs_iff,List.size_toArray,List.size_toArray,← rv1.length,← rv2.length,rs1.length,rs2.length]
theorem rcT {l b:Addr} {vs ws:List V} {ds es:List PyData} {us xs:List Value} {A:Around} (rs1:Reps X.K H vs ds) (rs2:Reps X.K H ws es) (rv1:Vals vs us) (rv2:Vals ws xs) (p1:IsTup s.heap l us.toArray) (p2:IsTup s.heap b xs.toArray) (hu:A.units<cLine)
 (he:∀ j (h1:j<us.length) (h2:j<xs.length),EqAt A.in1 s us[j] xs[j] (pdEq (ds.getD j .none) (es.getD j .none))):RcAt A s (.ref l) (.ref b) (pdEq (.tuple ds) (.tuple es)):=by
 show RcAt A s (.ref l) (.ref b) (af1 ds es)
 rw [← allEq (A:=A) rs1 rs2 rv1 rv2]
 exact RcAt.tuples (show s.heap.IsTuple l us.toArray from p1) (show s.heap.IsTuple b xs.toArray from p2) hu fun j h1 h2=>by simpa using he j (by simpa using h1) (by simpa using h2)
theorem rcL {l b:Addr} {vs ws:List V} {ds es:List PyData} {us xs:List Value} {A:Around} (rs1:Reps X.K H vs ds) (rs2:Reps X.K H ws es) (rv1:Vals vs us) (rv2:Vals ws xs) (p1:s.heap.IsList l us.toArray) (p2:s.heap.IsList b xs.toArray) (hu:A.units<cLine)
 (he:∀ j (h1:j<us.length) (h2:j<xs.length),EqAt A.in1 s us[j] xs[j] (pdEq (ds.getD j .none) (es.getD j .none))):RcAt A s (.ref l) (.ref b) (pdEq (.list ds) (.list es)):=by
 show RcAt A s (.ref l) (.ref b) (af1 ds es)
 have q:=allEq (A:=A) rs1 rs2 rv1 rv2
 by_cases hz:us.toArray.size=xs.toArray.size
 ·rw [← q,hz,Nat.min_self,beq_self_eq_true,Bool.and_true,← hz]
  exact RcAt.lists p1 p2 hz hu fun j h1 h2=>by simpa using he j (by simpa using h1) (by simpa using h2)
 ·have e:af1 ds es=false:=by
   rw [← q]
   have:(us.toArray.size == xs.toArray.size)=false:=by simpa using hz
   rw [this,Bool.and_false]
  rw [e]
  exact RcAt.lists_lengths p1 p2 (by simpa using hz) hu
theorem eqT (I:Inv X pins σ H s) {l b:Addr} {vs ws:List V} {ds es:List PyData} {us xs:List Value} {A:Around} (h1:SqT X.K H l vs) (h2:SqT X.K H b ws) (rs1:Reps X.K H vs ds) (rs2:Reps X.K H ws es) (rv1:Vals vs us) (rv2:Vals ws xs) (p1:IsTup s.heap l us.toArray) (p2:IsTup s.heap b xs.toArray) (hu:A.units<cLine)
 (he:∀ j (h1:j<us.length) (h2:j<xs.length),EqAt A.in1 s us[j] xs[j] (pdEq (ds.getD j .none) (es.getD j .none))):EqAt A s (.ref l) (.ref b) (pdEq (.tuple ds) (.tuple es)):=by
 by_cases hlb:l=b
 ·subst hlb
  obtain ⟨e,q⟩:=Rep.fn I (.tup h1 rs1) (.tup h2 rs2) (u:=.ref l) rfl
  rw [← e,q]
  exact EqAt.same _
 ·exact EqAt.of_refs hlb (rcT rs1 rs2 rv1 rv2 p1 p2 hu he)
theorem eqL (I:Inv X pins σ H s) {l b:Addr} {vs ws:List V} {ds es:List PyData} {us xs:List Value} {A:Around} (h1:SqL X.K H l vs) (h2:SqL X.K H b ws) (rs1:Reps X.K H vs ds) (rs2:Reps X.K H ws es) (rv1:Vals vs us) (rv2:Vals ws xs) (p1:s.heap.IsList l us.toArray) (p2:s.heap.IsList b xs.toArray) (hu:A.units<cLine)
 (he:∀ j (h1:j<us.length) (h2:j<xs.length),EqAt A.in1 s us[j] xs[j] (pdEq (ds.getD j .none) (es.getD j .none))):EqAt A s (.ref l) (.ref b) (pdEq (.list ds) (.list es)):=by
 by_cases hlb:l=b
 ·subst hlb
  obtain ⟨e,q⟩:=Rep.fn I (.lst h1 rs1) (.lst h2 rs2) (u:=.ref l) rfl
  rw [← e,q]
  exact EqAt.same _
 ·exact EqAt.of_refs hlb (rcL rs1 rs2 rv1 rv2 p1 p2 hu he)
theorem hu00 {A:Around} {n:Nat} (h:A.units+n<cLine):A.units<cLine:=by omega
theorem hu0 {A:Around} {n:Nat} (h:A.units+(n+1)<cLine):A.units<cLine:=by omega
theorem hu1 {A:Around} {n:Nat} (h:A.units+(n+1)<cLine):A.in1.units+n<cLine:=by show A.units+1+n<cLine;omega
mutual
theorem eq_at (I:Inv X pins σ H s):∀ {v w:V} {d e:PyData} {u x:Value} {A:Around},Rep X.K H v d->Rep X.K H w e->RelV v u->RelV w x->A.units+a99 d<cLine->EqAt A s u x (pdEq d e)
 | _,_,_,_,u,x,A,.non,.non,r1,r2,hu=>by
   cases (show u=Value.none from r1)
   cases (show x=Value.none from r2)
   exact EqAt.same _
 | _,_,_,_,u,x,A,.non,.bl b2,r1,r2,hu=>by
   cases (show u=Value.none from r1)
   cases (show x=Value.bool b2 from r2)
   exact EqAt.none_bool b2
 | _,_,_,_,u,x,A,.non,.int i2,r1,r2,hu=>by
   cases (show u=Value.none from r1)
   obtain ⟨t2,e2⟩:=(show ∃ t,x=Value.int i2 t from r2);subst e2
   exact EqAt.none_int i2 t2
 | _,_,_,_,u,x,A,.non,.str y2,r1,r2,hu=>by
   cases (show u=Value.none from r1)
   obtain ⟨t2,e2⟩:=(show ∃ t,x=Value.str y2 t from r2);subst e2
   exact EqAt.none_str y2 t2
 | _,_,_,_,u,x,A,.non,.lst h2 rs2,r1,r2,hu=>by
   cases (show u=Value.none from r1)
   cases (show x=Value.ref _ from r2);obtain ⟨its2,rv2,p2,_⟩:=I.list h2
   exact EqAt.none_list p2.isList (hu00 hu)
 | _,_,_,_,u,x,A,.non,.tup h2 rs2,r1,r2,hu=>by
   cases (show u=Value.none from r1)
   cases (show x=Value.ref _ from r2);obtain ⟨its2,rv2,p2,_⟩:=I.tuple h2
   exact EqAt.none_tuple p2 (hu00 hu)
 | _,_,_,_,u,x,A,.bl b1,.non,r1,r2,hu=>by
   cases (show u=Value.bool b1 from r1)
   cases (show x=Value.none from r2)
   exact EqAt.bool_none b1
 | _,_,_,_,u,x,A,.bl b1,.bl b2,r1,r2,hu=>by
   cases (show u=Value.bool b1 from r1)
   cases (show x=Value.bool b2 from r2)
   exact EqAt.bool_bool b1 b2
 | _,_,_,_,u,x,A,.bl b1,.int i2,r1,r2,hu=>by
   cases (show u=Value.bool b1 from r1)
   obtain ⟨t2,e2⟩:=(show ∃ t,x=Value.int i2 t from r2);subst e2
   exact EqAt.bool_int b1 i2 t2
 | _,_,_,_,u,x,A,.bl b1,.str y2,r1,r2,hu=>by
   cases (show u=Value.bool b1 from r1)
   obtain ⟨t2,e2⟩:=(show ∃ t,x=Value.str y2 t from r2);subst e2
   exact EqAt.bool_str b1 y2 t2
 | _,_,_,_,u,x,A,.bl b1,.lst h2 rs2,r1,r2,hu=>by
   cases (show u=Value.bool b1 from r1)
   cases (show x=Value.ref _ from r2);obtain ⟨its2,rv2,p2,_⟩:=I.list h2
   exact EqAt.bool_list b1 p2.isList (hu00 hu)
 | _,_,_,_,u,x,A,.bl b1,.tup h2 rs2,r1,r2,hu=>by
   cases (show u=Value.bool b1 from r1)
   cases (show x=Value.ref _ from r2);obtain ⟨its2,rv2,p2,_⟩:=I.tuple h2
   exact EqAt.bool_tuple b1 p2 (hu00 hu)
 | _,_,_,_,u,x,A,.int i1,.non,r1,r2,hu=>by
   obtain ⟨t1,e1⟩:=(show ∃ t,u=Value.int i1 t from r1);subst e1
   cases (show x=Value.none from r2)
   exact EqAt.int_none i1 t1
 | _,_,_,_,u,x,A,.int i1,.bl b2,r1,r2,hu=>by
   obtain ⟨t1,e1⟩:=(show ∃ t,u=Value.int i1 t from r1);subst e1
   cases (show x=Value.bool b2 from r2)
   exact EqAt.int_bool i1 t1 b2
 | _,_,_,_,u,x,A,.int i1,.int i2,r1,r2,hu=>by
   obtain ⟨t1,e1⟩:=(show ∃ t,u=Value.int i1 t from r1);subst e1
   obtain ⟨t2,e2⟩:=(show ∃ t,x=Value.int i2 t from r2);subst e2
   exact EqAt.int_int i1 t1 i2 t2
 | _,_,_,_,u,x,A,.int i1,.str y2,r1,r2,hu=>by
   obtain ⟨t1,e1⟩:=(show ∃ t,u=Value.int i1 t from r1);subst e1
   obtain ⟨t2,e2⟩:=(show ∃ t,x=Value.str y2 t from r2);subst e2
   exact EqAt.int_str i1 t1 y2 t2
 | _,_,_,_,u,x,A,.int i1,.lst h2 rs2,r1,r2,hu=>by
   obtain ⟨t1,e1⟩:=(show ∃ t,u=Value.int i1 t from r1);subst e1
   cases (show x=Value.ref _ from r2);obtain ⟨its2,rv2,p2,_⟩:=I.list h2
   exact EqAt.int_list i1 t1 p2.isList (hu00 hu)
 | _,_,_,_,u,x,A,.int i1,.tup h2 rs2,r1,r2,hu=>by
   obtain ⟨t1,e1⟩:=(show ∃ t,u=Value.int i1 t from r1);subst e1
   cases (show x=Value.ref _ from r2);obtain ⟨its2,rv2,p2,_⟩:=I.tuple h2
   exact EqAt.int_tuple i1 t1 p2 (hu00 hu)
 | _,_,_,_,u,x,A,.str y1,.non,r1,r2,hu=>by
   obtain ⟨t1,e1⟩:=(show ∃ t,u=Value.str y1 t from r1);subst e1
   cases (show x=Value.none from r2)
   exact EqAt.str_none y1 t1
 | _,_,_,_,u,x,A,.str y1,.bl b2,r1,r2,hu=>by
   obtain ⟨t1,e1⟩:=(show ∃ t,u=Value.str y1 t from r1);subst e1
   cases (show x=Value.bool b2 from r2)
   exact EqAt.str_bool y1 t1 b2
 | _,_,_,_,u,x,A,.str y1,.int i2,r1,r2,hu=>by
   obtain ⟨t1,e1⟩:=(show ∃ t,u=Value.str y1 t from r1);subst e1
   obtain ⟨t2,e2⟩:=(show ∃ t,x=Value.int i2 t from r2);subst e2
   exact EqAt.str_int y1 t1 i2 t2
 | _,_,_,_,u,x,A,.str y1,.str y2,r1,r2,hu=>by
   obtain ⟨t1,e1⟩:=(show ∃ t,u=Value.str y1 t from r1);subst e1
   obtain ⟨t2,e2⟩:=(show ∃ t,x=Value.str y2 t from r2);subst e2
   exact EqAt.str_str y1 t1 y2 t2
 | _,_,_,_,u,x,A,.str y1,.lst h2 rs2,r1,r2,hu=>by
   obtain ⟨t1,e1⟩:=(show ∃ t,u=Value.str y1 t from r1);subst e1
   cases (show x=Value.ref _ from r2);obtain ⟨its2,rv2,p2,_⟩:=I.list h2
   exact EqAt.str_list y1 t1 p2.isList (hu00 hu)
 | _,_,_,_,u,x,A,.str y1,.tup h2 rs2,r1,r2,hu=>by
   obtain ⟨t1,e1⟩:=(show ∃ t,u=Value.str y1 t from r1);subst e1
   cases (show x=Value.ref _ from r2);obtain ⟨its2,rv2,p2,_⟩:=I.tuple h2
   exact EqAt.str_tuple y1 t1 p2 (hu00 hu)
 | _,_,_,_,u,x,A,.lst h1 rs1,.non,r1,r2,hu=>by
   cases (show u=Value.ref _ from r1);obtain ⟨its1,rv1,p1,_⟩:=I.list h1
   cases (show x=Value.none from r2)
   exact EqAt.list_none p1.isList (hu00 hu)
 | _,_,_,_,u,x,A,.lst h1 rs1,.bl b2,r1,r2,hu=>by
   cases (show u=Value.ref _ from r1);obtain ⟨its1,rv1,p1,_⟩:=I.list h1
   cases (show x=Value.bool b2 from r2)
   exact EqAt.list_bool b2 p1.isList (hu00 hu)
 | _,_,_,_,u,x,A,.lst h1 rs1,.int i2,r1,r2,hu=>by
   cases (show u=Value.ref _ from r1);obtain ⟨its1,rv1,p1,_⟩:=I.list h1
   obtain ⟨t2,e2⟩:=(show ∃ t,x=Value.int i2 t from r2);subst e2
   exact EqAt.list_int i2 t2 p1.isList (hu00 hu)
 | _,_,_,_,u,x,A,.lst h1 rs1,.str y2,r1,r2,hu=>by
   cases (show u=Value.ref _ from r1);obtain ⟨its1,rv1,p1,_⟩:=I.list h1
   obtain ⟨t2,e2⟩:=(show ∃ t,x=Value.str y2 t from r2);subst e2
   exact EqAt.list_str y2 t2 p1.isList (hu00 hu)
 | _,_,_,_,u,x,A,.lst h1 rs1,.lst h2 rs2,r1,r2,hu=>by
   cases (show u=Value.ref _ from r1);obtain ⟨its1,rv1,p1,_⟩:=I.list h1
   cases (show x=Value.ref _ from r2);obtain ⟨its2,rv2,p2,_⟩:=I.list h2
   exact eqL I h1 h2 rs1 rs2 rv1 rv2 p1.isList p2.isList (hu0 hu) (ao0 I rs1 rs2 rv1 rv2 (hu1 hu))
 | _,_,_,_,u,x,A,.lst h1 rs1,.tup h2 rs2,r1,r2,hu=>by
   cases (show u=Value.ref _ from r1);obtain ⟨its1,rv1,p1,_⟩:=I.list h1
   cases (show x=Value.ref _ from r2);obtain ⟨its2,rv2,p2,_⟩:=I.tuple h2
   exact EqAt.list_tuple p1.isList p2 (hu00 hu)
 | _,_,_,_,u,x,A,.tup h1 rs1,.non,r1,r2,hu=>by
   cases (show u=Value.ref _ from r1);obtain ⟨its1,rv1,p1,_⟩:=I.tuple h1
   cases (show x=Value.none from r2)
   exact EqAt.tuple_none p1 (hu00 hu)
 | _,_,_,_,u,x,A,.tup h1 rs1,.bl b2,r1,r2,hu=>by
   cases (show u=Value.ref _ from r1);obtain ⟨its1,rv1,p1,_⟩:=I.tuple h1
   cases (show x=Value.bool b2 from r2)
   exact EqAt.tuple_bool b2 p1 (hu00 hu)
 | _,_,_,_,u,x,A,.tup h1 rs1,.int i2,r1,r2,hu=>by
   cases (show u=Value.ref _ from r1);obtain ⟨its1,rv1,p1,_⟩:=I.tuple h1
   obtain ⟨t2,e2⟩:=(show ∃ t,x=Value.int i2 t from r2);subst e2
   exact EqAt.tuple_int i2 t2 p1 (hu00 hu)
 | _,_,_,_,u,x,A,.tup h1 rs1,.str y2,r1,r2,hu=>by
   cases (show u=Value.ref _ from r1);obtain ⟨its1,rv1,p1,_⟩:=I.tuple h1
   obtain ⟨t2,e2⟩:=(show ∃ t,x=Value.str y2 t from r2);subst e2
   exact EqAt.tuple_str y2 t2 p1 (hu00 hu)
 | _,_,_,_,u,x,A,.tup h1 rs1,.lst h2 rs2,r1,r2,hu=>by
   cases (show u=Value.ref _ from r1);obtain ⟨its1,rv1,p1,_⟩:=I.tuple h1
   cases (show x=Value.ref _ from r2);obtain ⟨its2,rv2,p2,_⟩:=I.list h2
   exact EqAt.tuple_list p1 p2.isList (hu00 hu)
 | _,_,_,_,u,x,A,.tup h1 rs1,.tup h2 rs2,r1,r2,hu=>by
   cases (show u=Value.ref _ from r1);obtain ⟨its1,rv1,p1,_⟩:=I.tuple h1
   cases (show x=Value.ref _ from r2);obtain ⟨its2,rv2,p2,_⟩:=I.tuple h2
   exact eqT I h1 h2 rs1 rs2 rv1 rv2 p1 p2 (hu0 hu) (ao0 I rs1 rs2 rv1 rv2 (hu1 hu))
theorem ao0 (I:Inv X pins σ H s):∀ {vs ws:List V} {ds es:List PyData} {us xs:List Value} {A:Around},Reps X.K H vs ds->Reps X.K H ws es->Vals vs us->Vals ws xs->A.units+a95 ds<cLine->
 ∀ j (h1:j<us.length) (h2:j<xs.length),EqAt A s us[j] xs[j] (pdEq (ds.getD j .none) (es.getD j .none))
 |_,_,_,_,_,_,_,.nil,_,.nil,_,_,j,h1,_=>absurd h1 (Nat.not_lt_zero _)
 |_,_,_,_,_,_,_,.cons _ _,.nil,.cons _ _,.nil,_,j,_,h2=>absurd h2 (Nat.not_lt_zero _)
 |_,_,_,_,_,_,_,.cons a b,.cons c d,.cons r rs,.cons t ts,hu,0,_,_=>eq_at I a c r t (by simp only [a95] at hu;simp only [List.getD_cons_zero];omega)
 |_,_,_,_,_,_,_,.cons a b,.cons c d,.cons r rs,.cons t ts,hu,j+1,h1,h2=>ao0 I b d rs ts (by simp only [a95] at hu;omega) j (by simpa using h1) (by simpa using h2)
end
theorem rc_at (I:Inv X pins σ H s):∀ {v w:V} {d e:PyData} {u x:Value} {A:Around},Rep X.K H v d->Rep X.K H w e->RelV v u->RelV w x->A.units+a99 d<cLine->RcAt A s u x (pdEq d e)
 | _,_,_,_,u,x,A,.non,.non,r1,r2,hu=>by
   cases (show u=Value.none from r1)
   cases (show x=Value.none from r2)
   exact RcAt.none_none
 | _,_,_,_,u,x,A,.non,.bl b2,r1,r2,hu=>by
   cases (show u=Value.none from r1)
   cases (show x=Value.bool b2 from r2)
   exact RcAt.none_bool b2
 | _,_,_,_,u,x,A,.non,.int i2,r1,r2,hu=>by
   cases (show u=Value.none from r1)
   obtain ⟨t2,e2⟩:=(show ∃ t,x=Value.int i2 t from r2);subst e2
   exact RcAt.none_int i2 t2
 | _,_,_,_,u,x,A,.non,.str y2,r1,r2,hu=>by
   cases (show u=Value.none from r1)
   obtain ⟨t2,e2⟩:=(show ∃ t,x=Value.str y2 t from r2);subst e2
   exact RcAt.none_str y2 t2
 | _,_,_,_,u,x,A,.non,.lst h2 rs2,r1,r2,hu=>by
   cases (show u=Value.none from r1)
   cases (show x=Value.ref _ from r2);obtain ⟨its2,rv2,p2,_⟩:=I.list h2
   exact RcAt.none_list p2.isList (hu00 hu)
 | _,_,_,_,u,x,A,.non,.tup h2 rs2,r1,r2,hu=>by
   cases (show u=Value.none from r1)
   cases (show x=Value.ref _ from r2);obtain ⟨its2,rv2,p2,_⟩:=I.tuple h2
   exact RcAt.none_tuple p2 (hu00 hu)
 | _,_,_,_,u,x,A,.bl b1,.non,r1,r2,hu=>by
   cases (show u=Value.bool b1 from r1)
   cases (show x=Value.none from r2)
   exact RcAt.bool_none b1
 | _,_,_,_,u,x,A,.bl b1,.bl b2,r1,r2,hu=>by
   cases (show u=Value.bool b1 from r1)
   cases (show x=Value.bool b2 from r2)
   exact RcAt.bool_bool b1 b2
 | _,_,_,_,u,x,A,.bl b1,.int i2,r1,r2,hu=>by
   cases (show u=Value.bool b1 from r1)
   obtain ⟨t2,e2⟩:=(show ∃ t,x=Value.int i2 t from r2);subst e2
   exact RcAt.bool_int b1 i2 t2
 | _,_,_,_,u,x,A,.bl b1,.str y2,r1,r2,hu=>by
   cases (show u=Value.bool b1 from r1)
   obtain ⟨t2,e2⟩:=(show ∃ t,x=Value.str y2 t from r2);subst e2
   exact RcAt.bool_str b1 y2 t2
 | _,_,_,_,u,x,A,.bl b1,.lst h2 rs2,r1,r2,hu=>by
   cases (show u=Value.bool b1 from r1)
   cases (show x=Value.ref _ from r2);obtain ⟨its2,rv2,p2,_⟩:=I.list h2
   exact RcAt.bool_list b1 p2.isList (hu00 hu)
 | _,_,_,_,u,x,A,.bl b1,.tup h2 rs2,r1,r2,hu=>by
   cases (show u=Value.bool b1 from r1)
   cases (show x=Value.ref _ from r2);obtain ⟨its2,rv2,p2,_⟩:=I.tuple h2
   exact RcAt.bool_tuple b1 p2 (hu00 hu)
 | _,_,_,_,u,x,A,.int i1,.non,r1,r2,hu=>by
   obtain ⟨t1,e1⟩:=(show ∃ t,u=Value.int i1 t from r1);subst e1
   cases (show x=Value.none from r2)
   exact RcAt.int_none i1 t1
 | _,_,_,_,u,x,A,.int i1,.bl b2,r1,r2,hu=>by
   obtain ⟨t1,e1⟩:=(show ∃ t,u=Value.int i1 t from r1);subst e1
   cases (show x=Value.bool b2 from r2)
   exact RcAt.int_bool i1 t1 b2
 | _,_,_,_,u,x,A,.int i1,.int i2,r1,r2,hu=>by
   obtain ⟨t1,e1⟩:=(show ∃ t,u=Value.int i1 t from r1);subst e1
   obtain ⟨t2,e2⟩:=(show ∃ t,x=Value.int i2 t from r2);subst e2
   exact RcAt.int_int i1 t1 i2 t2
 | _,_,_,_,u,x,A,.int i1,.str y2,r1,r2,hu=>by
   obtain ⟨t1,e1⟩:=(show ∃ t,u=Value.int i1 t from r1);subst e1
   obtain ⟨t2,e2⟩:=(show ∃ t,x=Value.str y2 t from r2);subst e2
   exact RcAt.int_str i1 t1 y2 t2
 | _,_,_,_,u,x,A,.int i1,.lst h2 rs2,r1,r2,hu=>by
   obtain ⟨t1,e1⟩:=(show ∃ t,u=Value.int i1 t from r1);subst e1
   cases (show x=Value.ref _ from r2);obtain ⟨its2,rv2,p2,_⟩:=I.list h2
   exact RcAt.int_list i1 t1 p2.isList (hu00 hu)
 | _,_,_,_,u,x,A,.int i1,.tup h2 rs2,r1,r2,hu=>by
   obtain ⟨t1,e1⟩:=(show ∃ t,u=Value.int i1 t from r1);subst e1
   cases (show x=Value.ref _ from r2);obtain ⟨its2,rv2,p2,_⟩:=I.tuple h2
   exact RcAt.int_tuple i1 t1 p2 (hu00 hu)
 | _,_,_,_,u,x,A,.str y1,.non,r1,r2,hu=>by
   obtain ⟨t1,e1⟩:=(show ∃ t,u=Value.str y1 t from r1);subst e1
   cases (show x=Value.none from r2)
   exact RcAt.str_none y1 t1
 | _,_,_,_,u,x,A,.str y1,.bl b2,r1,r2,hu=>by
   obtain ⟨t1,e1⟩:=(show ∃ t,u=Value.str y1 t from r1);subst e1
   cases (show x=Value.bool b2 from r2)
   exact RcAt.str_bool y1 t1 b2
 | _,_,_,_,u,x,A,.str y1,.int i2,r1,r2,hu=>by
   obtain ⟨t1,e1⟩:=(show ∃ t,u=Value.str y1 t from r1);subst e1
   obtain ⟨t2,e2⟩:=(show ∃ t,x=Value.int i2 t from r2);subst e2
   exact RcAt.str_int y1 t1 i2 t2
 | _,_,_,_,u,x,A,.str y1,.str y2,r1,r2,hu=>by
   obtain ⟨t1,e1⟩:=(show ∃ t,u=Value.str y1 t from r1);subst e1
   obtain ⟨t2,e2⟩:=(show ∃ t,x=Value.str y2 t from r2);subst e2
   exact RcAt.str_str y1 t1 y2 t2
 | _,_,_,_,u,x,A,.str y1,.lst h2 rs2,r1,r2,hu=>by
   obtain ⟨t1,e1⟩:=(show ∃ t,u=Value.str y1 t from r1);subst e1
   cases (show x=Value.ref _ from r2);obtain ⟨its2,rv2,p2,_⟩:=I.list h2
   exact RcAt.str_list y1 t1 p2.isList (hu00 hu)
 | _,_,_,_,u,x,A,.str y1,.tup h2 rs2,r1,r2,hu=>by
   obtain ⟨t1,e1⟩:=(show ∃ t,u=Value.str y1 t from r1);subst e1
   cases (show x=Value.ref _ from r2);obtain ⟨its2,rv2,p2,_⟩:=I.tuple h2
   exact RcAt.str_tuple y1 t1 p2 (hu00 hu)
 | _,_,_,_,u,x,A,.lst h1 rs1,.non,r1,r2,hu=>by
   cases (show u=Value.ref _ from r1);obtain ⟨its1,rv1,p1,_⟩:=I.list h1
   cases (show x=Value.none from r2)
   exact RcAt.list_none p1.isList (hu00 hu)
 | _,_,_,_,u,x,A,.lst h1 rs1,.bl b2,r1,r2,hu=>by
   cases (show u=Value.ref _ from r1);obtain ⟨its1,rv1,p1,_⟩:=I.list h1
   cases (show x=Value.bool b2 from r2)
   exact RcAt.list_bool b2 p1.isList (hu00 hu)
 | _,_,_,_,u,x,A,.lst h1 rs1,.int i2,r1,r2,hu=>by
   cases (show u=Value.ref _ from r1);obtain ⟨its1,rv1,p1,_⟩:=I.list h1
   obtain ⟨t2,e2⟩:=(show ∃ t,x=Value.int i2 t from r2);subst e2
   exact RcAt.list_int i2 t2 p1.isList (hu00 hu)
 | _,_,_,_,u,x,A,.lst h1 rs1,.str y2,r1,r2,hu=>by
   cases (show u=Value.ref _ from r1);obtain ⟨its1,rv1,p1,_⟩:=I.list h1
   obtain ⟨t2,e2⟩:=(show ∃ t,x=Value.str y2 t from r2);subst e2
   exact RcAt.list_str y2 t2 p1.isList (hu00 hu)
 | _,_,_,_,u,x,A,.lst h1 rs1,.lst h2 rs2,r1,r2,hu=>by
   cases (show u=Value.ref _ from r1);obtain ⟨its1,rv1,p1,_⟩:=I.list h1
   cases (show x=Value.ref _ from r2);obtain ⟨its2,rv2,p2,_⟩:=I.list h2
   exact rcL rs1 rs2 rv1 rv2 p1.isList p2.isList (hu0 hu) (ao0 I rs1 rs2 rv1 rv2 (hu1 hu))
 | _,_,_,_,u,x,A,.lst h1 rs1,.tup h2 rs2,r1,r2,hu=>by
   cases (show u=Value.ref _ from r1);obtain ⟨its1,rv1,p1,_⟩:=I.list h1
   cases (show x=Value.ref _ from r2);obtain ⟨its2,rv2,p2,_⟩:=I.tuple h2
   exact RcAt.list_tuple p1.isList p2 (hu00 hu)
 | _,_,_,_,u,x,A,.tup h1 rs1,.non,r1,r2,hu=>by
   cases (show u=Value.ref _ from r1);obtain ⟨its1,rv1,p1,_⟩:=I.tuple h1
   cases (show x=Value.none from r2)
   exact RcAt.tuple_none p1 (hu00 hu)
 | _,_,_,_,u,x,A,.tup h1 rs1,.bl b2,r1,r2,hu=>by
   cases (show u=Value.ref _ from r1);obtain ⟨its1,rv1,p1,_⟩:=I.tuple h1
   cases (show x=Value.bool b2 from r2)
   exact RcAt.tuple_bool b2 p1 (hu00 hu)
 | _,_,_,_,u,x,A,.tup h1 rs1,.int i2,r1,r2,hu=>by
   cases (show u=Value.ref _ from r1);obtain ⟨its1,rv1,p1,_⟩:=I.tuple h1
   obtain ⟨t2,e2⟩:=(show ∃ t,x=Value.int i2 t from r2);subst e2
   exact RcAt.tuple_int i2 t2 p1 (hu00 hu)
 | _,_,_,_,u,x,A,.tup h1 rs1,.str y2,r1,r2,hu=>by
   cases (show u=Value.ref _ from r1);obtain ⟨its1,rv1,p1,_⟩:=I.tuple h1
   obtain ⟨t2,e2⟩:=(show ∃ t,x=Value.str y2 t from r2);subst e2
   exact RcAt.tuple_str y2 t2 p1 (hu00 hu)
 | _,_,_,_,u,x,A,.tup h1 rs1,.lst h2 rs2,r1,r2,hu=>by
   cases (show u=Value.ref _ from r1);obtain ⟨its1,rv1,p1,_⟩:=I.tuple h1
   cases (show x=Value.ref _ from r2);obtain ⟨its2,rv2,p2,_⟩:=I.list h2
   exact RcAt.tuple_list p1 p2.isList (hu00 hu)
 | _,_,_,_,u,x,A,.tup h1 rs1,.tup h2 rs2,r1,r2,hu=>by
   cases (show u=Value.ref _ from r1);obtain ⟨its1,rv1,p1,_⟩:=I.tuple h1
   cases (show x=Value.ref _ from r2);obtain ⟨its2,rv2,p2,_⟩:=I.tuple h2
   exact rcT rs1 rs2 rv1 rv2 p1 p2 (hu0 hu) (ao0 I rs1 rs2 rv1 rv2 (hu1 hu))
end
section
variable {X:Cx}
def rEqD (K:PySem.W.Frag):R2:=fun x y H Q=>∃ d e,Rep K H x d/\Rep K H y e/\a99 d≤60/\Q (.bl (pdEq d e)) H
theorem op_eqD (hu:X.A.units+64<cLine):OpR X (compareOp .Eq) (rEqD X.K):=by
 intro pins s σ H x y v u Q I rx ry h
 obtain ⟨d,e,h1,h2,hd,q⟩:=h
 exact rc_at I h1 h2 rx ry (by omega) _ _ _ _ ⟨.bl _,H,I,rfl,q⟩
def rNeT (K:PySem.W.Frag):R2:=fun x y H Q=>∃ d e,Rep K H x (.tuple d)/\Rep K H y (.tuple e)/\a95 d≤60/\Q (.bl (!af1 d e)) H
theorem op_neT (hu:X.A.units+64<cLine):OpR X (compareOp .NotEq) (rNeT X.K):=by
 intro pins s σ H x y v u Q I rx ry h
 obtain ⟨d,e,h1,h2,hd,q⟩:=h
 cases h1 with
 | tup g1 rs1=>
   cases h2 with
   | tup g2 rs2=>
     cases (show v=Value.ref _ from rx)
     cases (show u=Value.ref _ from ry)
     obtain ⟨its1,rv1,p1,_⟩:=I.tuple g1
     obtain ⟨its2,rv2,p2,_⟩:=I.tuple g2
     have hz:=allEq (X:=X) (H:=H) (A:=X.A) rs1 rs2 rv1 rv2
     have hw:=RcNeAt.tuples (A:=X.A) (show s.heap.IsTuple _ its1.toArray from p1) (show s.heap.IsTuple _ its2.toArray from p2) (by omega)
      (e:=fun j=>pdEq (d.getD j .none) (e.getD j .none)) (fun j h1 h2=>by simpa using ao0 I rs1 rs2 rv1 rv2 (A:=X.A.in1) (by show X.A.units+1+_<_;omega) j (by simpa using h1) (by simpa using h2))
     rw [hz] at hw
     exact hw _ _ _ _ ⟨.bl _,H,I,rfl,q⟩
theorem al8 {e:PyData}:∀ {es:List PyData},e∈es->a99 e≤a95 es
 |_::_,.head _=>by simp only [a95];omega
 |_::r,.tail _ h=>by have:=al8 h;simp only [a95];omega
def tyD:PyData->String
 |.none=>"NoneType"
 |.bool _=>"bool"
 |.int _=>"int"
 |.str _=>"str"
 |.list _=>"list"
 |.tuple _=>"tuple"
 |.dict _=>"dict"
theorem isD {pins:List (Addr×Obj)} {σ:St} {H:Hp} {s:Shared} {A:Around} {E:Value->Shared->Prop} {Q:Value->Shared->Prop} {v:V} {d:PyData} {u c:Value} {b:Bool} (I:Inv X pins σ H s) (r:Rep X.K H v d) (rv:RelV v u)
 (e:PySem.W.kitOne X.K (.type (tyD d)) c=some b) (h:∀ tk,Q (.bool b) { s with toks:=tk }):wpAny (model X.prog X.w) A (call (.builtin "isinstance") [u,c]) Q E s:=by
 cases r with
 |non=>cases (show u=Value.none from rv);exact PySem.W.kia_one PySem.W.kitx_none I.kIn True.intro e (fun z=>nomatch z) h
 |bl y=>cases (show u=Value.bool y from rv);exact PySem.W.kia_one PySem.W.kitx_bool I.kIn True.intro e (fun z=>nomatch z) h
 |int i=>obtain ⟨t,q⟩:=(show ∃ t,u=Value.int i t from rv);cases q;exact PySem.W.kia_one PySem.W.kitx_int I.kIn True.intro e (fun z=>nomatch z) h
 |str y=>obtain ⟨t,q⟩:=(show ∃ t,u=Value.str y t from rv);cases q;exact PySem.W.kia_one PySem.W.kitx_str I.kIn True.intro e (fun z=>nomatch z) h
 | tup g _=>
   cases (show u=Value.ref _ from rv)
   obtain ⟨_,_,⟨o,h1,h2,_⟩,_⟩:=I.tuple g
   exact PySem.W.kia_one PySem.W.kitx_tuple I.kIn ⟨o,h1,h2⟩ e (fun z=>nomatch z) h
 | lst g _=>
   cases (show u=Value.ref _ from rv)
   obtain ⟨_,_,⟨o,n,h1,h2,_⟩,_⟩:=I.list g
   exact PySem.W.kia_one PySem.W.kitx_list I.kIn ⟨o,h1,h2⟩ e (fun z=>nomatch z) h
theorem isD2 {pins:List (Addr×Obj)} {σ:St} {H:Hp} {s:Shared} {A:Around} {E:Value->Shared->Prop} {Q:Value->Shared->Prop} {v:V} {d:PyData} {u:Value} {tp:Addr} {dd:Option Addr} {its:List Value} {n:Nat} {sl:Array (Option Value)} {b:Bool} (I:Inv X pins σ H s) (r:Rep X.K H v d) (rv:RelV v u)
 (htp:s.heap.get? tp=some ⟨.type "tuple",dd,.seq its.toArray n,sl⟩) (e:PySem.W.kitAny X.K (.type (tyD d)) its=some b) (h:∀ tk,Q (.bool b) { s with toks:=tk }):wpAny (model X.prog X.w) A (call (.builtin "isinstance") [u,.ref tp]) Q E s:=by
 cases r with
 |non=>cases (show u=Value.none from rv);exact PySem.W.kia_tup PySem.W.kitx_none I.kIn True.intro htp e (fun z=>nomatch z) h
 |bl y=>cases (show u=Value.bool y from rv);exact PySem.W.kia_tup PySem.W.kitx_bool I.kIn True.intro htp e (fun z=>nomatch z) h
 |int i=>obtain ⟨t,q⟩:=(show ∃ t,u=Value.int i t from rv);cases q;exact PySem.W.kia_tup PySem.W.kitx_int I.kIn True.intro htp e (fun z=>nomatch z) h
 |str y=>obtain ⟨t,q⟩:=(show ∃ t,u=Value.str y t from rv);cases q;exact PySem.W.kia_tup PySem.W.kitx_str I.kIn True.intro htp e (fun z=>nomatch z) h
 | tup g _=>
   cases (show u=Value.ref _ from rv)
   obtain ⟨_,_,⟨o,h1,h2,_⟩,_⟩:=I.tuple g
   exact PySem.W.kia_tup PySem.W.kitx_tuple I.kIn ⟨o,h1,h2⟩ htp e (fun z=>nomatch z) h
 | lst g _=>
   cases (show u=Value.ref _ from rv)
   obtain ⟨_,_,⟨o,n,h1,h2,_⟩,_⟩:=I.list g
   exact PySem.W.kia_tup PySem.W.kitx_list I.kIn ⟨o,h1,h2⟩ htp e (fun z=>nomatch z) h
def rIsT (K:PySem.W.Frag):List V->Hp->VK->Prop:=fun xs H Q=>∃ x n d b,xs=[x,.ty n]/\Rep K H x d/\PySem.W.kitOne K (.type (tyD d)) (.type n)=some b/\Q (.bl b) H
theorem a88:ag5 X (.builtin "isinstance") (rIsT X.K):=by
 intro pins s σ H xs us Q I r h
 obtain ⟨x,n,d,b,rfl,hr,e,q⟩:=h
 cases r with
 | cons r1 r=>
   cases r with
   | cons r2 r=>
     cases r
     cases (show _=Value.type n from r2)
     exact isD I hr r1 e fun tk=>⟨.bl b,H,I.tok tk,rfl,q⟩
def rIsT2 (K:PySem.W.Frag):List V->Hp->VK->Prop:=fun xs H Q=>∃ x a n m d b,xs=[x,.ref a]/\H a=some (.tup [.ty n,.ty m])/\Rep K H x d/\PySem.W.kitAny K (.type (tyD d)) [.type n,.type m]=some b/\Q (.bl b) H
theorem call_isT2:ag5 X (.builtin "isinstance") (rIsT2 X.K):=by
 intro pins s σ H xs us Q I r h
 obtain ⟨x,a,n,m,d,b,rfl,ha,hr,e,q⟩:=h
 cases r with
 | cons r1 r=>
   cases r with
   | cons r2 r=>
     cases r
     cases (show _=Value.ref a from r2)
     obtain ⟨z,its,rv,o,h1,h2,k,h3⟩:=(show ab6 X.prog X.w H s.heap a (.tup [.ty n,.ty m]) from I.hok a _ ha)
     obtain ⟨cls,dd,data,sl⟩:=o
     simp only at h2 h3
     subst h2 h3
     cases rv with
     | cons g1 rv=>
       cases rv with
       | cons g2 rv=>
         cases rv
         cases (show _=Value.type n from g1)
         cases (show _=Value.type m from g2)
         exact isD2 I hr r1 h1 e fun tk=>⟨.bl b,H,I.tok tk,rfl,q⟩
theorem bools_of {xs:List V} {us:List Value}:∀ {bs:List Bool},xs=bs.map V.bl->Vals xs us->us=bs.map Value.bool:=by
 intro bs e r
 induction bs generalizing xs us with
 |nil=>subst e;cases r;rfl
 | cons b t ih=>
   subst e
   cases r with
   |cons r1 r=>rw [List.map_cons,ih rfl r,(show _=Value.bool b from r1)]
theorem range_all (bs:List Bool):(List.range bs.length).all (fun i=>bs.getD i false)=bs.all id:=by
 induction bs with
 |nil=>rfl
 |cons b t ih=>rw [List.length_cons,List.range_succ_eq_map,List.all_cons,List.all_map,List.all_cons,← ih];rfl
theorem range_any (bs:List Bool):(List.range bs.length).any (fun i=>bs.getD i false)=bs.any id:=by
 induction bs with
 |nil=>rfl
 |cons b t ih=>rw [List.length_cons,List.range_succ_eq_map,List.any_cons,List.any_map,List.any_cons,← ih];rfl
theorem am9 {P:Program} {w:World} {A:Around} {bs:List Bool}:TruthOf P w A (fun i v=>((bs.map Value.bool).toArray)[i]?=some v) fun i=>bs.getD i false:=fun i v s Q E hP hQ=>by
 dsimp only at hP hQ
 rw [List.getElem?_toArray,List.getElem?_map] at hP
 cases e:bs[i]? with
 |none=>rw [e] at hP;cases hP
 | some b=>
   rw [e] at hP
   cases hP
   rw [List.getD_eq_getElem?_getD,e] at hQ
   exact wpAny_pure hQ
def rAllB (K:PySem.W.Frag) (f:List Bool->Bool):List V->Hp->VK->Prop:=fun xs H Q=>∃ a bs,xs=[.ref a]/\SqL K H a (bs.map V.bl)/\Q (.bl (f bs)) H
theorem an6 (hh:X.calm=true):ag5 X (.builtin "all") (rAllB X.K fun bs=>bs.all id):=by
 intro pins s σ H xs us Q I r h
 obtain ⟨a,bs,rfl,hq,q⟩:=h
 cases r with
 | cons r1 r=>
   cases r
   cases (show _=Value.ref a from r1)
   obtain ⟨its,rv,p,hz⟩:=I.list hq
   have e:=bools_of rfl rv
   subst e
   refine PySem.call_all_walk (wpAny_pyIter_list p.isList ?_)
   have hne:a≠s.heap.objs.size:=(by obtain ⟨o,ho,_⟩:=p.isList;exact Nat.ne_of_lt (Heap.lt_size ho))
   refine ⟨s.heap.objs.size,_,_,_,_,_,_,rfl,Walks.list (A:=X.A.in1) (I.ok.hd hh) s.heap.objs.size a hne (bs.map Value.bool).toArray,⟨⟨_,Heap.get?_push_size _ rfl,rfl,rfl⟩,?_⟩,am9,fun h' tk hk=>?_⟩
   ·obtain ⟨o,ho,hc,n,hd⟩:=p.isList
    exact ⟨o,Heap.get?_push_of_some _ ho,hc,n,hd⟩
   ·rw [List.size_toArray,List.length_map,range_all]
    exact ⟨.bl _,H,I.kept fun b o e=>hk b o (by simp;exact Nat.ne_of_lt (Heap.lt_size e)) (Heap.get?_push_of_some _ e),rfl,q⟩
theorem call_anyB (hh:X.calm=true):ag5 X (.builtin "any") (rAllB X.K fun bs=>bs.any id):=by
 intro pins s σ H xs us Q I r h
 obtain ⟨a,bs,rfl,hq,q⟩:=h
 cases r with
 | cons r1 r=>
   cases r
   cases (show _=Value.ref a from r1)
   obtain ⟨its,rv,p,hz⟩:=I.list hq
   have e:=bools_of rfl rv
   subst e
   refine PySem.call_any_walk (wpAny_pyIter_list p.isList ?_)
   have hne:a≠s.heap.objs.size:=(by obtain ⟨o,ho,_⟩:=p.isList;exact Nat.ne_of_lt (Heap.lt_size ho))
   refine ⟨s.heap.objs.size,_,_,_,_,_,_,rfl,Walks.list (A:=X.A.in1) (I.ok.hd hh) s.heap.objs.size a hne (bs.map Value.bool).toArray,⟨⟨_,Heap.get?_push_size _ rfl,rfl,rfl⟩,?_⟩,am9,fun h' tk hk=>?_⟩
   ·obtain ⟨o,ho,hc,n,hd⟩:=p.isList
    exact ⟨o,Heap.get?_push_of_some _ ho,hc,n,hd⟩
   ·rw [List.size_toArray,List.length_map,range_any]
    exact ⟨.bl _,H,I.kept fun b o e=>hk b o (by simp;exact Nat.ne_of_lt (Heap.lt_size e)) (Heap.get?_push_of_some _ e),rfl,q⟩
theorem strs_of {us:List Value}:∀ {ys:List Str},Vals (ys.map V.str) us->StrsAre us ys:=by
 intro ys
 induction ys generalizing us with
 |nil=>intro r;cases r;exact .nil
 | cons y t ih=>
   intro r
   cases r with
   | cons r1 r=>
     obtain ⟨tk,e⟩:=(show ∃ t,_=Value.str y t from r1)
     subst e
     exact .cons _ _ (ih r)
def rJoin (K:PySem.W.Frag):V->List V->Hp->VK->Prop:=fun x vs H Q=>∃ z a ys,x=.str z/\vs=[.ref a]/\SqL K H a (ys.map V.str)/\(ys.map (·.length)).sum+ys.length*z.length≤16777216/\Q (.str (Txt.join z ys)) H
theorem mt_join:MtR X "str.join" (rJoin X.K):=by
 intro pins s σ H x vs v us Q I rx rv h
 obtain ⟨z,a,ys,rfl,rfl,hq,hl,q⟩:=h
 obtain ⟨t,e⟩:=(show ∃ t,v=Value.str z t from rx)
 subst e
 cases rv with
 | cons r1 r=>
   cases r
   cases (show _=Value.ref a from r1)
   obtain ⟨its,rs,p,hz⟩:=I.list hq
   exact join_list p.isList (by simpa using strs_of rs) hl fun t' k=>⟨.str _,H,I.tok k,⟨t',rfl⟩,q⟩
def rS0 (f:Str->Bool):V->List V->Hp->VK->Prop:=fun x vs H Q=>∃ z,x=.str z/\vs=[]/\Q (.bl (f z)) H
theorem mt_isascii:MtR X "str.isascii" (rS0 fun x=>x.cps.all (·<128)):=by
 intro pins s σ H x vs v us Q I rx rv h
 obtain ⟨z,rfl,rfl,q⟩:=h
 obtain ⟨t,e⟩:=(show ∃ t,v=Value.str z t from rx)
 subst e
 cases rv
 exact call_gives PySem.F.slot_str_isascii (typeIs_str _ _ _) PySem.F.entry_str_isascii (PySem.F.args_str_isascii_1 _) (gives_str_isascii z t) ⟨.bl _,H,I,rfl,q⟩
theorem mt_isalpha:MtR X "str.isalpha" (rS0 fun x=>x.length > 0 && x.cps.all Unicode.isAlpha):=by
 intro pins s σ H x vs v us Q I rx rv h
 obtain ⟨z,rfl,rfl,q⟩:=h
 obtain ⟨t,e⟩:=(show ∃ t,v=Value.str z t from rx)
 subst e
 cases rv
 exact call_gives PySem.F.slot_str_isalpha (typeIs_str _ _ _) PySem.F.entry_str_isalpha (PySem.F.args_str_isalpha_1 _) (gives_str_isalpha z t) ⟨.bl _,H,I,rfl,q⟩
theorem mt_islower:MtR X "str.islower" (rS0 fun x=>x.cps.any Unicode.isLower && !x.cps.any fun c=>Unicode.isUpper c || Unicode.isTitle c):=by
 intro pins s σ H x vs v us Q I rx rv h
 obtain ⟨z,rfl,rfl,q⟩:=h
 obtain ⟨t,e⟩:=(show ∃ t,v=Value.str z t from rx)
 subst e
 cases rv
 exact call_gives PySem.F.slot_str_islower (typeIs_str _ _ _) PySem.F.entry_str_islower (PySem.F.args_str_islower_1 _) (gives_str_islower z t) ⟨.bl _,H,I,rfl,q⟩
end
structure CompS (osc:Scope) (N:List Str) (scope:Scope) (own:List Str) (js:List Nat) (N':List Str):Prop where
 kind:scope.kind=.function
 nocell:∀ y∈scope.names,y.2≠.cell
 names:∀ y∈scope.names,y.2=.local->scope.names.lookup y.1=some .local
 free:∀ y∈scope.names,y.2=.free->osc.names.lookup y.1=some .cell∨osc.names.lookup y.1=some .free
 nm:N'=own++js.map fun j=>N.getD j Str.empty
 fr:∀ j∈js,j<N.length/\(N.getD j Str.empty,NameKind.free)∈scope.names/\∀ y∈scope.names,y.1=N.getD j Str.empty->y.2=.free
theorem a89.of {X:Cx} {osc scope:Scope} {N own N':List Str} {js:List Nat} (h1:X.env.scope=osc) (h2:X.N=N) (h:CompS osc N scope own js N'):a89 X scope own js N':=by
 subst h1 h2
 exact ⟨h.kind,h.nocell,h.names,h.free,h.nm,fun j hj=>⟨(h.fr j hj).1,(h.fr j hj).2.1,fun k hk=>(h.fr j hj).2.2 _ hk rfl⟩⟩
mutual
def an9:PyData->Nat
 |.tuple xs=>max xs.length (an7 xs)
 |.list xs=>max xs.length (an7 xs)
 |_=>0
def an7:List PyData->Nat
 |[]=>0
 |d::r=>max (an9 d) (an7 r)
end
theorem as5 {e:PyData}:∀ {es:List PyData},e∈es->an9 e≤an7 es
 |_::_,.head _=>by simp only [an7];omega
 |_::r,.tail _ h=>by have:=as5 h;simp only [an7];omega
theorem ac5 {X:Cx} {x:Str} {n:String} {pos:Pos} (hg:Gl X x) (hm:X.mg x=none) (hv:bootBuiltins x=some (.type n)) (hn:x ≠ "__name__":=by decide) (hd:(x == ("__debug__" : Str))=false:=by decide):PE X (.Name x pos) (tC (.ty n)):=pe_bltn (v:=.ty n) hg hm hv rfl hn hd
theorem ifT {c:Bool} {A B:Prop} (h:c=true) (q:A):if c=true then A else B:=by rw [if_pos h];exact q
theorem ifF {c:Bool} {A B:Prop} (h:c=false) (q:B):if c=true then A else B:=by rw [if_neg (by rw [h];exact Bool.false_ne_true)];exact q
section
variable {X:Cx} {a b c d:Expr} {ta tb tc td:TE} {pos:Pos}
def tChain3 (r r' r'':R2) (ta tb tc td:TE):TE:=fun σ H Q=>ta σ H fun x H1=>tb σ H1 fun y H2=>r x y H2 fun z H3=>∃ k,z=.bl k/\
 (if k=true then tc σ H3 fun w' H4=>r' y w' H4 fun z' H5=>∃ k',z'=.bl k'/\(if k'=true then td σ H5 fun v' H6=>r'' w' v' H6 Q else Q (.bl false) H5) else Q (.bl false) H3)
theorem pt_chain3 {op op' op'':CmpOp} {r r' r'':R2} (ho:OpR X (compareOp op) r) (ho':OpR X (compareOp op') r') (ho'':OpR X (compareOp op'') r'') (ha:PE X a ta) (hb:PE X b tb) (hc:PE X c tc) (hd:PE X d td)
 (hm:lastMarks [op,op',op''] [b,c,d]=false:=by with_unfolding_all rfl):PT X (.Compare a [op,op',op''] [b,c,d] pos) (tTest (tChain3 r r' r'' ta tb tc td)):=by
 intro pins s σ H Q I h
 refine isTrue_chain (thn (ha pins s σ H _ I h) fun v s1 ⟨x,H1,I1,r1,q1⟩=>test_link (thn (hb pins s1 σ H1 _ I1 q1) fun u s2 ⟨y,H2,I2,r2,q2⟩=>
  thn (ho pins s2 σ H2 x y v u _ I2 r1 r2 q2) fun d' s3 ⟨z,H3,I3,r3,k,e,q3⟩=>?_)) hm
 subst e
 cases r3
 refine wpAny_truthy_bool ?_
 cases k with
 | false=>
   obtain ⟨k',e',q'⟩:=q3
   cases e'
   exact ite_ff ⟨H3,I3,q'⟩
 | true=>
   refine ite_tt (test_link (thn (hc pins s3 σ H3 _ I3 q3) fun w' s4 ⟨z',H4,I4,r4,q4⟩=>thn (ho' pins s4 σ H4 y z' u w' _ I4 r2 r4 q4) fun d'' s5 ⟨z2,H5,I5,r5,k2,e2,q5⟩=>?_))
   subst e2
   cases r5
   refine wpAny_truthy_bool ?_
   cases k2 with
   | false=>
     obtain ⟨k',e',q'⟩:=q5
     cases e'
     exact ite_ff ⟨H5,I5,q'⟩
   | true=>
     refine ite_tt (test_last (thn (hd pins s5 σ H5 _ I5 q5) fun w2 s6 ⟨z3,H6,I6,r6,q6⟩=>thn (ho'' pins s6 σ H6 z' z3 w' w2 _ I6 r4 r6 q6) fun d3 s7 ⟨z4,H7,I7,r7,k3,e3,q7⟩=>?_))
     subst e3
     cases r7
     exact wpAny_truthy_bool ⟨H7,I7,q7⟩
end
abbrev TF:=Str->St->Hp->VK->Prop
def PF (X:Cx) (es:List Expr) (t:TF):Prop:=
 ∀ (out:Str) (pins:List (Addr×Obj)) (s:Shared) (σ:St) (H:Hp) (Q:VK),Inv X pins σ H s->t out σ H Q->wpAny (model X.prog X.w) X.A (joinParts out (evalEach es X.env)) (EP X pins σ Q) X.xe s
def FmtV (x:V) (y:Str):Prop:=(x=.str y/\y.length≤sizeLine)∨∃ i:Int,x=.int i/\i.natAbs.log2<1920/\y=Str.ofString (toString i)
section
variable {X:Cx} {es:List Expr} {t:TF} {e:Expr} {te:TE} {pos:Pos}
theorem pf_nil:PF X [] (fun out _ H Q=>out.length≤sizeLine/\Q (.str out) H):=fun out pins s σ H Q I h=>joinParts_nil ⟨.str out,H,I.tok _,⟨_,rfl⟩,h.2⟩ h.1
theorem pf_txt {x:Str} {j:Nat} (hr:PF X es t) (hs:evalEach (.Constant (.str x) j pos::es) X.env=eval (.Constant (.str x) j pos) X.env::evalEach es X.env:=by rfl) :
 PF X (.Constant (.str x) j pos::es) (fun out σ H Q=>(out++x).length≤sizeLine/\t (out++x) σ H Q):=by
 intro out pins s σ H Q I h
 rw [hs]
 exact joinParts_cons (Calls.Constant_str ⟨h.1,hr (out++x) pins _ σ H Q (I.tok _) h.2⟩)
theorem pf_val (he:PE X e te) (hr:PF X es t) (hs:evalEach (.FormattedValue e (-1) none pos::es) X.env=eval (.FormattedValue e (-1) none pos) X.env::evalEach es X.env:=by rfl) :
 PF X (.FormattedValue e (-1) none pos::es) (fun out σ H Q=>te σ H fun x H1=>∃ y,FmtV x y/\(out++y).length≤sizeLine/\t (out++y) σ H1 Q):=by
 intro out pins s σ H Q I h
 rw [hs]
 refine joinParts_cons (FormattedValue_plain (thn (he pins s σ H _ I h) fun v s1 ⟨x,H1,I1,r1,y,fm,hl,q⟩=>?_))
 rcases fm with ⟨rfl,hy⟩|⟨i,rfl,hi,rfl⟩
 ·obtain ⟨tk,rfl⟩:=r1
  exact formatField_str (fun t' tk=>⟨hl,hr _ pins _ σ H1 Q (I1.tok tk) q⟩) hy
 ·obtain ⟨tk,rfl⟩:=r1
  exact formatField_int_small hi ⟨hl,hr _ pins _ σ H1 Q (I1.tok _) q⟩
def tFstr (t:TF):TE:=fun σ H Q=>t Str.empty σ H Q
theorem pe_fstr {e1 e2:Expr} (h:PF X (e1::e2::es) t) (hs:evalEach (e1::e2::es) X.env=eval e1 X.env::eval e2 X.env::evalEach es X.env:=by rfl):PE X (.JoinedStr (e1::e2::es) pos) (tFstr t):=by
 intro pins s σ H Q I hw
 refine JoinedStr_many ?_
 rw [← hs]
 exact h _ pins s σ H Q I hw
end
section
variable {X:Cx} {CX:CXT} {k:Nat} {f C:Addr} {fd:FuncData} {ps:List Str} {sp:Sp} {E:XK}
end
end L2
namespace HT
open PySem PySem.Spec PyProof.Rows
section
variable {prog:Program} {w:World} {A:Around} {E:Value->Shared->Prop} {s:Shared}
theorem cat_nil {t b:Addr} {ws:List Value} {Q:Value->Shared->Prop} (ht:IsTup s.heap t #[]) (hb:IsTup s.heap b ws.toArray) (h:Q (.ref b) s):wpAny (model prog w) A (binaryOp .Add (.ref t) (.ref b)) Q E s:=by
 obtain ⟨⟨_,dd,_,sl⟩,ho,rfl,n,rfl⟩:=id ht
 obtain ⟨⟨_,dd2,_,sl2⟩,ho2,rfl,n2,rfl⟩:=id hb
 exact concat_meets ⟨_,ho,rfl⟩ ⟨_,ho2,rfl⟩ noFill_tuple_add seq_tuple_add PySem.F.slot_tuple_add PySem.F.entry_tuple_add (PySem.F.args_tuple_add_2 _ _) (tuple_addW0 t b #[] ws.toArray n n2 dd dd2 sl sl2 rfl) ⟨ho,ho2,h⟩
theorem tup_slice {t sl:Addr} {items:Array Value} {a b c:Value} {lo step:Int} {n:Nat} {Q:Value->Shared->Prop} (ht:IsTup s.heap t items) (hs:s.heap.IsSliceOf sl a b c)
 (ha:∀ (A':Around) (Q':Int×Int×Nat->Shared->Prop) (E':Value->Shared->Prop),Q' (lo,step,n) s->wpAny (model prog w) A' (Builtin.Slice.sliceApplied (.ref sl) (pure (items.size:Int))) Q' E' s)
 (h1:(lo == 0 && step == 1 && n == items.size)=true->Q (.ref t) s)
 (h2:¬ (lo == 0 && step == 1 && n == items.size)=true->((List.range n).filterMap fun (k:Nat)=>items[(lo+(k:Int)*step).toNat]?).length≤sizeLine/\
  Q (.ref s.heap.objs.size) { s with heap:=s.heap.push { cls:=.type "tuple",data:=.seq ((List.range n).filterMap fun (k:Nat)=>items[(lo+(k:Int)*step).toNat]?).toArray } }) :
 wpAny (model prog w) A (getItem (.ref t) (.ref sl)) Q E s:=by
 obtain ⟨so,hso,hsc,hsd⟩:=id hs
 have hty:s.TypeIs (.ref sl) "slice":=⟨so,hso,hsc⟩
 obtain ⟨to,hto,htc,nt,htd⟩:=id ht
 unfold getItem
 try with_reducible refine wpAny_holding ?_
 first|refine wpAny_bind (wpAny_pure ?_)|skip
 refine wpAny_bind (wpAny_sequenceKey ht.typeIs (by decide) (wpAny_bind (wpAny_callSpecial?_slot (name:=Str.ofString "__getitem__") ht.typeIs PyProof.Rows.slot_tuple_getitem (wpAny_call_entry PyProof.Rows.slot_tuple_getitem ht.typeIs entry_tuple_getitem ?_ (args_tuple_getitem _ _)))))
 show wpAny _ _ (Builtin.Tuple.tupleItemsOf (.ref t) >>= _) _ _ s
 refine wpAny_bind (tupleItemsOf_ ht (wpAny_bind (wpAny_typeOf hty ?_)))
 rw [if_pos (by decide)]
 refine wpAny_bind (ha _ _ _ ?_)
 show wpAny _ _ (if (lo == 0 && step == 1 && n == items.size)=true then _ else _) _ _ s
 by_cases hw:(lo == 0 && step == 1 && n == items.size)=true
 ·rw [if_pos hw]
  have hx:wpAny (model prog w) A.in1 (Builtin.Tuple.tupleIsExact (.ref t)) (fun b s'=>b=true/\s'=s) E s:=by
   unfold Builtin.Tuple.tupleIsExact
   refine wpAny_bind (wpAny_typeOf_ref hto ?_)
   rw [htc]
   exact wpAny_pure ⟨rfl,rfl⟩
  first
   |refine wpAny_bind (wpAny_mono hx (fun b s' h'=>?_) fun _ _ z=>z)
   |refine wpAny_bind (wpAny_bind (wpAny_mono hx (fun b s' h'=>?_) fun _ _ z=>z))
  obtain ⟨rfl,rfl⟩:=h'
  rw [if_pos rfl]
  first
   |exact wpAny_bind (wpAny_rule (wpAny_pure ⟨_,rfl,wpAny_pure (h1 hw)⟩))
   |exact wpAny_bind (wpAny_rule (wpAny_bind (wpAny_pure (wpAny_pure ⟨_,rfl,wpAny_pure (h1 hw)⟩))))
 ·rw [if_neg hw]
  obtain ⟨hz,hq⟩:=h2 hw
  have hok:sizeOk (.seq ((List.range n).filterMap fun (k:Nat)=>items[(lo+(k:Int)*step).toNat]?).toArray):=by
   show (_:Array Value).size≤sizeLine
   rw [List.size_toArray];exact hz
  first
   |exact wpAny_bind (m:=Builtin.Tuple.tupleExact _) (wpAny_newObj_type (wpAny_pure ⟨_,rfl,wpAny_pure hq⟩) hok)
   |exact wpAny_bind (m:=Builtin.Tuple.tupleExact _) (wpAny_newObj_type (wpAny_bind (wpAny_pure (wpAny_pure ⟨_,rfl,wpAny_pure hq⟩))) hok)
   |exact wpAny_bind (wpAny_bind (m:=Builtin.Tuple.tupleExact _) (wpAny_newObj_type (wpAny_pure (wpAny_pure ⟨_,rfl,wpAny_pure hq⟩)) hok))
end
end HT
namespace L2
open PySem PySem.Spec PyProof.Rows PySem.SeqAt
section
variable {X:Cx}
def rCatA (K:PySem.W.Frag):R2:=fun x y H Q=>∃ a b xs ys,x=.ref a/\y=.ref b/\SqT K H a xs/\SqT K H b ys/\xs.length+ys.length≤sizeLine/\(xs=[]->Q (.ref b) H)/\(ys=[]->Q (.ref a) H)/\∀ p,H p=none->Q (.ref p) (upd H p (.tup (xs++ys)))
theorem at4:OpR X (binaryOp .Add) (rCatA X.K):=by
 intro pins s σ H x y v u Q I rx ry h
 obtain ⟨a,b,xs,ys,rfl,rfl,ha,hb,hz,q0,q1,q2⟩:=h
 by_cases hx:xs=[]
 ·subst hx
  cases (show v=Value.ref a from rx)
  cases (show u=Value.ref b from ry)
  obtain ⟨its,r1,p1,_⟩:=I.tuple ha
  obtain ⟨its2,r2,p2,_⟩:=I.tuple hb
  cases r1
  exact HT.cat_nil p1 p2 ⟨.ref b,H,I,rfl,q0 rfl⟩
 ·refine op_catT pins s σ H _ _ v u Q I rx ry ⟨a,b,xs,ys,rfl,rfl,ha,hb,hx,hz,q1,fun _=>q2⟩
def rSlW (K:PySem.W.Frag):V->Option Int->Option Int->Hp->VK->Prop:=fun x lo hi H Q=>∃ a xs,x=.ref a/\SqT K H a xs/\(cutV xs lo hi=xs->Q (.ref a) H)/\∀ p,H p=none->Q (.ref p) (upd H p (.tup (cutV xs lo hi)))
theorem af3:SlR X (rSlW X.K):=by
 intro pins s σ H x v vl vu lo hi sl Q I rx hs pl pu h
 obtain ⟨a,xs,rfl,hx,q1,q2⟩:=h
 by_cases hw:HT.sIx xs.length 0 lo=0/\HT.sIx xs.length xs.length hi=xs.length
 ·cases (show v=Value.ref a from rx)
  obtain ⟨its,r,ht,hz⟩:=I.tuple hx
  have hlen:its.toArray.size=xs.length:=by rw [List.size_toArray];exact r.length.symm
  refine ⟨"tuple",_,PyProof.Rows.slot_tuple_getitem.lookup,ht.typeIs,?_⟩
  have e:cutV xs lo hi=xs:=by
   unfold cutV
   rw [hw.1,hw.2,List.drop_zero,Nat.sub_zero,List.take_length]
  refine HT.tup_slice ht hs (fun A' Q' E' q'=>HT.af5 hs pl pu q') (fun _=>⟨.ref a,H,I,rfl,q1 e⟩) fun hn=>(hn ?_).elim
  rw [hlen,hw.1,hw.2]
  simp
 ·exact sl_tup pins s σ H _ v vl vu lo hi sl Q I rx hs pl pu ⟨a,xs,rfl,hx,hw,q2⟩
end
section
variable {X:Cx}
end
section
variable {X:Cx} {CX:CXT} {k:Nat} {f C:Addr} {fd:FuncData} {ps:List Str} {sp:Sp} {E:XK}
end
section
variable {X:Cx} {pins:List (Addr×Obj)} {σ:St} {H:Hp} {s:Shared} {h':Heap}
theorem Inv.turnLaid {a:Addr} {o:HO} {t':Nat} {fp:List Addr} (I:Inv X pins σ H s) (k:∀ b u,b∉fp->s.heap.get? b=some u->h'.get? b=some u) (ke:∀ b∈fp,∃ u,h'.get? b=some u) (hf:∀ b∈fp,FpOk X pins H b) (hp:s.heap.objs.size≤a) (new:ab6 X.prog X.w (upd H a o) h' a o) :
 Inv X pins σ (upd H a o) { s with heap:=h',toks:=t' }:=by
 have hn:H a=none:=I.hok.fresh hp
 have off:∀ b u,H b=some u->b∉fp:=fun b u e z=>by rw [(hf b z).1] at e;cases e
 have up:∀ b u,H b=some u->(upd H a o) b=some u:=fun b u e=>by rw [a68 (a70 e hn)];exact e
 refine I.step (g':=s.gens) (d':=s.drawn) (ch:=fp) (fun b hb=>?_) (fun b u _ _ hc e _=>k b u hc e) (fun b u _ _ hc e _=>⟨u.slots,k b u hc e⟩) (fun b u _ e n=>?_) (fun b u hc e=>⟨u,k b u hc e⟩) (fun b xs e=>up b _ e) (fun b u z e=>up b _ e) (fun b ps e=>⟨#[],by rw [up b _ e];simp⟩) (fun m hm=>?_) (fun b u e=>?_) I.bare
 ·obtain ⟨_,f1,_,f3,f4,f5⟩:=hf b hb
  exact ⟨f3,f1,f4,f5⟩
 ·rw [a68 (Nat.ne_of_lt (Nat.lt_of_lt_of_le (Heap.lt_size e) hp))];exact n
 ·obtain ⟨u,es,ep,ho,r⟩:=hm
  exact ⟨u,es,ep,k _ u (fun z=>(hf _ z).2.1 rfl) ho,r⟩
 ·by_cases hb:b=a
  ·subst hb;rw [a02] at e;cases e;exact new
  ·rw [a68 hb] at e
   refine (I.hok b u e).stay (fun c v hc q=>k c v ?_ q) (fun c q=>up c _ q) fun c xs q=>up c _ q
   rcases hc with rfl|z
   ·exact off _ u e
   ·exact off c _ z
theorem af4 {prog:Program} {w:World} {A:Around} {E:Value->Shared->Prop} {s:Shared} {it l:Addr} {i:Nat} {items:Array Value} {x:Value} {Q:Value->Shared->Prop} (hit:s.heap.IsTupleIter it l i) (hl:s.heap.IsTuple l items) (hx:items[i]?=some x)
 (hQ:∀ g,g.IsTupleIter it l (i+1)->Heap.SameBut it s.heap g->Q x { s with heap:=g }):wpAny (model prog w) A (Builtin.SmallTypes.nextOf (.ref it)) Q E s:=by
 obtain ⟨o,ho,hc,hd⟩:=id hit
 obtain ⟨ol,hol,_,nl,hdl⟩:=hl
 unfold Builtin.SmallTypes.nextOf
 refine wpAny_bind (wpAny_callSpecial?_slot (name:=Str.ofString "__next__") hit.typeIs F.slot_tuple_iterator_next (wpAny_call_entry F.slot_tuple_iterator_next hit.typeIs F.entry_tuple_iterator_next ?_ (F.args_tuple_iterator_next_1 _)))
 show wpAny _ _ (field (.ref it) 0 >>= _) _ _ s
 refine wpAny_bind (wpAny_field ho hd (x:=.ref l) rfl ?_)
 show wpAny _ _ (if (Value.ref l == Value.none)=true then _ else _) _ _ s
 rw [if_neg (show ¬ ((Value.ref l == Value.none)=true) from nofun)]
 show wpAny _ _ (field (.ref it) 1 >>= _) _ _ s
 refine wpAny_bind (wpAny_field ho hd (x:=.int i 0) rfl ?_)
 show wpAny _ _ (seqItems? (.ref l) >>= _) _ _ s
 refine wpAny_bind (wpAny_seqItems hol hdl ?_)
 simp only [Int.toNat_natCast,hx]
 refine wpAny_bind (wpAny_setField ho hd (by simp) (wpAny_pure ⟨x,rfl,wpAny_pure (hQ _ ⟨_,Heap.get?_update_self _ ho (Obj.isFreed_of_fields (Obj.data_mapFields hd _)),(Obj.cls_mapFields ..).trans hc,by rw [Obj.data_mapFields hd];simp [rawInt]⟩ (Heap.SameBut.update ..))⟩))
theorem ae5 {prog:Program} {w:World} {A:Around} {E:Value->Shared->Prop} {s:Shared} {it l:Addr} {i:Nat} {items:Array Value} {Q:Value->Shared->Prop} (hh:A.handled=none) (hit:s.heap.IsTupleIter it l i) (hl:s.heap.IsTuple l items) (hx:items[i]?=none)
 (hE:∀ g e,Heap.ExtBut it s.heap g->(∃ o,g.get? e=some o/\o.cls=.type "StopIteration")->E (.ref e) { s with heap:=g }):wpAny (model prog w) A (Builtin.SmallTypes.nextOf (.ref it)) Q E s:=by
 obtain ⟨o,ho,hc,hd⟩:=id hit
 obtain ⟨ol,hol,_,nl,hdl⟩:=hl
 unfold Builtin.SmallTypes.nextOf
 refine wpAny_bind (wpAny_callSpecial?_slot (name:=Str.ofString "__next__") hit.typeIs F.slot_tuple_iterator_next (wpAny_call_entry F.slot_tuple_iterator_next hit.typeIs F.entry_tuple_iterator_next ?_ (F.args_tuple_iterator_next_1 _)))
 show wpAny _ _ (field (.ref it) 0 >>= _) _ _ s
 refine wpAny_bind (wpAny_field ho hd (x:=.ref l) rfl ?_)
 show wpAny _ _ (if (Value.ref l == Value.none)=true then _ else _) _ _ s
 rw [if_neg (show ¬ ((Value.ref l == Value.none)=true) from nofun)]
 show wpAny _ _ (field (.ref it) 1 >>= _) _ _ s
 refine wpAny_bind (wpAny_field ho hd (x:=.int i 0) rfl ?_)
 show wpAny _ _ (seqItems? (.ref l) >>= _) _ _ s
 refine wpAny_bind (wpAny_seqItems hol hdl ?_)
 simp only [Int.toNat_natCast,hx]
 refine wpAny_bind (wpAny_rule (wpAny_bind (wpAny_setField ho hd (by simp) ?_)))
 show wpAny _ _ (newExc (.type "StopIteration") [] >>= _) _ _ _
 refine wpAny_bind ?_
 simp only [newExc,newTuple]
 refine wpAny_bind (wpAny_newObj_type ?_ (by size_fits))
 refine wpAny_bind (m:=firstArgMember _ _) (wpAny_of_eq (a:=Value.none) (by first|rfl|(simp only [firstArgMember];rfl)) (wpAny_newObj_type ?_ (by size_fits)))
 simp only [raiseNew]
 refine wpAny_bind (wpAny_handled ?_)
 first|rw [show A.in1.handled=none from hh]|rw [hh]
 exact wpAny_bind (wpAny_pure (wpAny_throw (hE _ _ (((Heap.SameBut.update ..).extBut.push _).push _) ⟨_,Heap.get?_push_size _ rfl,rfl⟩)))
theorem drawsT {prog:Program} {w:World} {A:Around} (hh:A.handled=none) (it l:Addr) (hne:l≠it) (items:Array Value):Draws prog w A it [it,l] items.size (fun i v=>items[i]?=some v) (fun i h=>h.IsTupleIter it l i/\h.IsTuple l items) where
 live:=fun _ _ st=>let ⟨o,ho,_⟩:=st.1;⟨o,ho⟩
 frame:=fun _ _ _ st hk=>⟨st.1.at fun o e=>hk it (by simp) o e,let ⟨o,e,r⟩:=st.2;⟨o,hk l (by simp) o e,r⟩⟩
 item:=fun i s Q E hi st hQ=>af4 st.1 st.2 (x:=items[i]) (by simp [hi]) fun g g1 g2=>hQ _ g s.toks (by simp [hi]) ⟨g1,let ⟨o,e,r⟩:=st.2;⟨o,(g2.2 l hne).trans e,r⟩⟩ g2
 done:=fun s Q E st hE=>ae5 hh st.1 st.2 (by simp) hE
theorem new_enumT (l:Addr) (items:Array Value) (n:Nat) (dct:Option Addr) (sl:Array (Option Value)) :
 Meets (Builtin.«enumerate.__new__» ⟨[.type "enumerate",.ref l],[]⟩) (fun _ R s=>s.heap.get? l=some { cls:=.type "tuple",dict:=dct,data:=.seq items n,slots:=sl }/\
  R (.ok (.ret (.ref (s.heap.push { cls:=.type "tuple_iterator",data:=.fields #[.ref l,.int 0 0] }).objs.size)))
    { s with heap:=(s.heap.push { cls:=.type "tuple_iterator",data:=.fields #[.ref l,.int 0 0] }).push { cls:=.type "enumerate",data:=.fields #[.none,.bool false,.ref s.heap.objs.size,rawInt 0,.none,.none] } }):=
 .of_wp fun prog w A R s h=>by
  obtain ⟨hp,g,d,tk,os⟩:=s
  obtain ⟨hl,h⟩:=h
  have hsub:=sub_enumerate
  have hL:Heap.IsTuple (Shared.heap ⟨hp,g,d,tk,os⟩) l items:=⟨_,hl,rfl,n,rfl⟩
  wp_walk using AutoSeq1.wpAny_loadPart' hl
  refine wpAny_stack_any fun st=>wpAny_pure ?_
  split
  ·rename_i c _ _ _ _ _
   cases (c == Value.type "enumerate") <;> (wp_walk using AutoSeq1.wpAny_loadPart' hl,wpAny_pyIter_tuple hL;exact ⟨_,rfl,h⟩)
  ·wp_walk using AutoSeq1.wpAny_loadPart' hl,wpAny_pyIter_tuple hL
   exact ⟨_,rfl,h⟩
theorem call_enumT {prog:Program} {w:World} {A:Around} {E:Value->Shared->Prop} {s:Shared} {l:Addr} {items:Array Value} {Q:Value->Shared->Prop} (hL:s.heap.IsTuple l items)
 (h:∀ g,IsEnum g (s.heap.objs.size+1) s.heap.objs.size 0 .none->g.IsTupleIter s.heap.objs.size l 0->(∀ b o,s.heap.get? b=some o->g.get? b=some o)->Q (.ref (s.heap.objs.size+1)) { s with heap:=g }):wpAny (model prog w) A (call (.type "enumerate") [.ref l]) Q E s:=by
 obtain ⟨⟨_,dd,_,sl⟩,ho,rfl,n,rfl⟩:=id hL
 refine callType_new F.called_enumerate (by decide) (F.typeCall_enumerate_1 _) (F.newCall_enumerate_1 _) (fun obj=>F.args_object_init_2 obj _) F.entry_enumerate_new (new_enumT l items n dd sl) ⟨ho,?_⟩
 have hz:(s.heap.push { cls:=.type "tuple_iterator",data:=.fields #[.ref l,.int 0 0] }).objs.size=s.heap.objs.size+1:=Heap.size_push ..
 have he:=Heap.get?_push_size (s.heap.push { cls:=.type "tuple_iterator",data:=.fields #[.ref l,.int 0 0] }) (o:={ cls:=.type "enumerate",data:=.fields #[.none,.bool false,.ref s.heap.objs.size,rawInt 0,.none,.none] }) rfl
 rw [hz] at he
 show _/\_
 rw [hz]
 exact ⟨⟨_,he,rfl⟩,h _ he ⟨_,Heap.get?_push_of_some _ (Heap.get?_push_size _ rfl),rfl,rfl⟩ fun b o x=>Heap.get?_push_of_some _ (Heap.get?_push_of_some _ x)⟩
def Ite (K:PySem.W.Frag) (a:Addr):It:=
 ⟨fun i H=>∃ xs x,SqT K H a xs/\xs[i]?=some x,fun i H v H'=>∃ p x,H p=none/\v=.ref p/\(∀ xs,SqT K H a xs->xs[i]?=some x)/\H'=upd H p (.tup [.int i,x]),fun i H=>∃ xs,SqT K H a xs/\xs.length≤i⟩
theorem turn_enumT {P:Program} {w:World} {K:PySem.W.Frag} {elts:List Expr} {k1} {pos:Pos} (a e it:Addr) (hei:e≠it):Turn P w K (.Tuple elts k1 pos) (Ite K a) [e,it] e (fun i h=>(∃ old,IsEnum h e it i old)/\h.IsTupleIter it a i) where
 mem:=by simp
 obj:=fun i h st b hb=>by
  obtain ⟨⟨old,h1⟩,o,h2,_,h3⟩:=st
  rcases List.mem_cons.mp hb with rfl|hb
  ·exact ⟨_,h1,fun v z=>by cases (show Data.fields _=Data.cell v from z)⟩
  ·cases List.mem_singleton.mp hb
   exact ⟨o,h2,fun v z=>by rw [h3] at z;cases z⟩
 keep:=fun i h h' st k=>⟨let ⟨old,h1⟩:=st.1;⟨old,k e (by simp) _ h1⟩,st.2.at fun o z=>k it (by simp) o z⟩
 item:=by
  intro X hP hw hK hc i pins s σ H E I hf st hg
  subst hP hw hK
  obtain ⟨xs,x,hq,hx⟩:=hg
  obtain ⟨its,rv,p,hz⟩:=I.tuple hq
  obtain ⟨u,hu,ru⟩:=rv.get hx
  obtain ⟨⟨old,he⟩,ht⟩:=st
  have hit:s.heap.IsTuple a its.toArray:=p
  have han:a≠it:=by
   rintro rfl
   obtain ⟨o1,h1,h2,_⟩:=id hit
   obtain ⟨o2,h3,h4,_⟩:=id ht
   rw [h1] at h3;cases h3
   rw [h2] at h4;exact absurd (Value.type.inj h4) (by decide)
  have hae:a≠e:=by
   rintro rfl
   obtain ⟨o1,h1,h2,_⟩:=id hit
   rw [he] at h1;cases h1
   exact absurd (Value.type.inj h2) (by decide)
  have D:=drawsT (prog:=X.prog) (w:=X.w) (A:=X.A.in1) (I.ok.hd hc) it a han its.toArray
  have hlt:i<its.toArray.size:=by
   have:=(List.getElem?_eq_some_iff.mp hx).1
   have hl:=rv.length
   rw [List.size_toArray];omega
  refine wpAny_pyNext_enum_itemD D he ⟨ht,hit⟩ hlt hei (by simp [hei,Ne.symm hae]) fun y g tk hy ho hst' htup hsz hk=>?_
  have e1:y=u:=by
   have:its.toArray[i]?=some u:=by simpa using hu
   rw [this] at hy;exact (Option.some.inj hy).symm
  subst e1
  refine ⟨_,rfl,?_⟩
  have helt:e<s.heap.objs.size:=Heap.lt_size he
  have hilt:it<s.heap.objs.size:=let ⟨o,z,_⟩:=ht;Heap.lt_size z
  have I1:Inv X pins σ (upd H s.heap.objs.size (.tup [.int i,x])) { s with heap:=g,toks:=tk+1 }:=by
   refine I.turnLaid (fp:=[e,it]) (fun b o hb z=>hk b o (fun q=>hb (by simp [q])) (fun q=>hb (by simp [q])) z) (fun b hb=>?_) hf (Nat.le_refl _) ?_
   ·rcases List.mem_cons.mp hb with rfl|hb
    ·exact ⟨_,ho⟩
    ·cases List.mem_singleton.mp hb
     exact let ⟨o,z,_⟩:=hst'.1;⟨o,z⟩
   ·exact ⟨by show 2≤sizeLine;decide,[.int i tk,y],.cons ⟨_,rfl⟩ (.cons ru .nil),⟨_,htup,rfl,_,rfl⟩⟩
  have hno:∀ b∈[e,it],(upd H s.heap.objs.size (.tup [.int i,x])) b=none:=fun b hb=>by
   have hbl:b<s.heap.objs.size:=by
    rcases List.mem_cons.mp hb with rfl|hb
    ·exact helt
    ·cases List.mem_singleton.mp hb;exact hilt
   rw [a68 (Nat.ne_of_lt hbl)]
   exact (hf b hb).1
  refine wpAny_letOwnedTupleGo_enum ho fun g2 he2 hs2=>?_
  obtain ⟨f0,f1,f2,f3,f4,f5⟩:=hf e (by simp)
  refine ⟨.ref s.heap.objs.size,_,I1.turned (t':=tk+1) (fun b o hb z=>(hs2.2 b hb).trans z) (hno e (by simp)) f1 f3 f4 f5,rfl,⟨s.heap.objs.size,x,I.hok.fresh (Nat.le_refl _),rfl,fun ys hy=>by rw [I.tuple_inj hy hq];exact hx,rfl⟩,⟨⟨_,by simpa using he2⟩,?_⟩,hno⟩
  exact hst'.1.at fun o z=>(hs2.2 it (Ne.symm hei)).trans z
 done:=by
  intro X hP hw hK hc i pins s σ H E I hf st hg
  subst hP hw hK
  obtain ⟨xs,hq,hx⟩:=hg
  obtain ⟨its,rv,p,hz⟩:=I.tuple hq
  obtain ⟨⟨old,he⟩,ht⟩:=st
  obtain ⟨f0,f1,f2,f3,f4,f5⟩:=hf it (by simp)
  have hl:=rv.length
  have hT:s.TypeIs (.ref e) "enumerate":=⟨_,he,rfl⟩
  unfold pyNext
  refine wpAny_bind (wpAny_attempt (wpAny_callSpecial?_slot (name:=Str.ofString "__next__") hT F.slot_enumerate_next (wpAny_call_entry F.slot_enumerate_next hT F.entry_enumerate_next ?_ (F.args_enumerate_next_1 _))))
  show wpAny _ _ (field (.ref e) 2 >>= _) _ _ _
  refine wpAny_bind (wpAny_field he rfl (x:=.ref it) rfl (wpAny_bind (ae5 (A:=X.A.in1) (I.ok.hd hc) ht (show s.heap.IsTuple a its.toArray from p) (by simp;omega) fun g x ex hx'=>?_)))
  obtain ⟨o,ho,hcl⟩:=hx'
  exact wpAny_bind (wpAny_isInstance (T:="StopIteration") (b:=true) ⟨o,ho,hcl⟩ isSubtype_stop (wpAny_pure ⟨rfl,I.turned (t':=s.toks) (fun b o hb e=>ex b o hb e) f0 f1 f3 f4 f5⟩))
 self:=fun _ _ _ _ _ st h=>let ⟨_,he⟩:=st.1;wpAny_pyIter_enum he h
def iEnum (K:PySem.W.Frag) (ta:TA):TI:=fun σ H R=>ta σ H fun vs H1=>∃ a,vs=[.ref a]/\(∃ xs,SqT K H1 a xs)/\R (Ite K a) H1
theorem pi_enumT {elts:List Expr} {k1} {pt:Pos} {a:Expr} {ta:TA} {p pos:Pos} (hg:Gl X "enumerate") (hm:X.mg "enumerate" = none) (hv:bootBuiltins "enumerate" = some (.type "enumerate")) (ha:PA X [a] ta) (hs:starEach [a] X.env=[(false,eval a X.env)]:=by rfl):PI X (.Tuple elts k1 pt) (.Call (.Name "enumerate" p) [a] [] pos) (iEnum X.K ta):=by
 intro pins s σ H R I h
 refine Call_ (ak4 I hg hm hv (PyProof.Rows.callWith_type1 (thn (ha pos pins s σ H _ I h) fun us s1 ⟨vs,H1,I1,r1,q1⟩=>?_) hs rfl))
 obtain ⟨l,rfl,⟨xs,hq⟩,q⟩:=q1
 obtain ⟨u,rfl,e⟩:=vals1 r1
 cases (show u=Value.ref l from e)
 obtain ⟨its,rv,hp,hz⟩:=I1.tuple hq
 refine call_enumT (show s1.heap.IsTuple l its.toArray from hp) fun g he hi hk=>wpAny_pyIter_enum he ?_
 refine ⟨s1.heap.objs.size+1,[s1.heap.objs.size+1,s1.heap.objs.size],_,_,H1,rfl,I1.kept (t':=s1.toks) hk,turn_enumT l _ s1.heap.objs.size (Nat.succ_ne_self _),⟨⟨_,he⟩,hi⟩,fun b hb=>?_,q⟩
 rcases List.mem_cons.mp hb with rfl|hb
 ·exact I1.fpOk (Nat.le_succ _) (I1.hok.fresh (Nat.le_succ _))
 ·cases List.mem_singleton.mp hb
  exact I1.fpOk (Nat.le_refl _) (I1.hok.fresh (Nat.le_refl _))
theorem for_enumT {K:PySem.W.Frag} {a:Addr} {xs:List V} {g:TG} {tb:TS} {D:Ends} {σ:St} {H:Hp} (Pv:Nat->St->Hp->Prop) (h0:Pv 0 σ H) (hl:∀ i σ H,i≤xs.length->Pv i σ H->SqT K H a xs)
 (hs:∀ i x σ H p,xs[i]?=some x->Pv i σ H->H p=none->g (.ref p) σ (upd H p (.tup [.int i,x])) fun σ2 H2=>tb { D with nx:=Pv (i+1),ct:=Pv (i+1),bk:=D.nx } σ2 H2)
 (hd:∀ σ H,Pv xs.length σ H->D.nx σ H) :
 ∃ W:Nat->Nat->St->Hp->Prop,(∃ m,W 0 m σ H)/\∀ i m σ H,W i m σ H->((Ite K a).stop i H/\D.nx σ H)∨((Ite K a).go i H/\∃ N:St->Hp->Prop,(∀ σ' H',N σ' H'->∃ m',m'<m/\W (i+1) m' σ' H')/\∀ x H',(Ite K a).yld i H x H'->g x σ H' fun σ2 H2=>tb { D with nx:=N,ct:=N,bk:=D.nx } σ2 H2):=by
 refine ⟨fun i m σ H=>m=xs.length-i/\i≤xs.length/\Pv i σ H,⟨xs.length,by simp,Nat.zero_le _,h0⟩,?_⟩
 rintro i m σ H ⟨rfl,hi,p⟩
 have q:=hl i σ H hi p
 by_cases hlt:i<xs.length
 ·refine .inr ⟨⟨xs,xs[i],q,by simp [hlt]⟩,Pv (i+1),fun σ' H' z=>⟨xs.length-(i+1),by omega,rfl,hlt,z⟩,?_⟩
  rintro x H' ⟨p',y,hn,rfl,hy,rfl⟩
  exact hs i y σ H p' (hy xs q) p hn
 ·have e:i=xs.length:=by omega
  subst e
  exact .inl ⟨⟨xs,q,Nat.le_refl _⟩,hd σ H p⟩
theorem ak9:bootBuiltins "enumerate" = some (.type "enumerate"):=by decide +kernel
end
def ah4 (h:Heap) (H:Hp) (g:Heap) (e:Addr) (cls:Value) (dd:Option Addr):Prop:=
 ∃ oe vs,h.get? e=some oe/\oe.cls=cls/\oe.dict=dd/\oe.data=.fields vs/\g.get? e=none/\H e=none/\
   (vs[1]?=some .none∨∃ T oT ts,vs[1]?=some (.ref T)/\T≠e/\h.get? T=some oT/\oT.data=.fields ts/\ts[3]?=some .none/\g.get? T=none/\H T=none)
theorem ah4.mono {h:Heap} {H:Hp} {g g':Heap} {e:Addr} {cls:Value} {dd:Option Addr} (x:ah4 h H g e cls dd) (hl:∀ b,g.get? b=none->g'.get? b=none):ah4 h H g' e cls dd:=by
 obtain ⟨oe,vs,h1,h2,h3,h4,h5,h6,h7⟩:=x
 refine ⟨oe,vs,h1,h2,h3,h4,hl _ h5,h6,?_⟩
 rcases h7 with h7|⟨T,oT,ts,a,b,c,d,f,gT,i⟩
 ·exact .inl h7
 ·exact .inr ⟨T,oT,ts,a,b,c,d,f,hl _ gT,i⟩
theorem mapF_dict (f:Array Value->Array Value) (o:Obj):(Obj.mapFields f o).dict=o.dict:=by
 obtain ⟨c,d,da,sl⟩:=o
 cases da <;> rfl
section
variable {M:Model} {A:Around} {E:Value->Shared->Prop} {s:Shared}
theorem entryX {base:Heap} {env:Env} {outer:List Env} {L e:Addr} {oe:Obj} {vs:Array Value} {head:Value} {hadNext:Bool} {Q:Unit->Shared->Prop} (hfr:A.frames=some (env::outer)) (hl:s.heap.FunFrames base (env::outer)) (hf:env.frame=some L)
 (he:s.heap.get? e=some oe) (hd:oe.data=.fields vs) (hsz:1<vs.size)
 (h:∀ (h':Heap) (T:Addr) (oe' oT:Obj) (vs' ts:Array Value),s.heap.objs.size≤T->h'.get? e=some oe'->oe'.cls=oe.cls->oe'.dict=oe.dict->oe'.data=.fields vs'->vs'[1]?=some (.ref T)->h'.get? T=some oT->oT.data=.fields ts->ts[3]?=some .none->
  (∀ b o,b≠e->b∉(env::outer).filterMap (·.frame)->s.heap.get? b=some o->h'.get? b=some o)->(∀ b o,b≠e->s.heap.get? b=some o->∃ sl,h'.get? b=some { o with slots:=sl })->Q () { s with heap:=h' }) :
 wpAny M A (do let a ← frameOf env;let pl ← entryPlaceOf L hadNext;let b ← EntryCells.newEntry head a .none (rawInt L) .none pl;setField (.ref e) 1 b) (fun _ s'=>wpAny M A (setFlight (.ref e) none) Q E s') E s:=by
 have hene:e∉(env::outer).filterMap (·.frame):=fun hm=>by
  obtain ⟨_,o,ho,hnf⟩:=hl.mem hm
  rw [he] at ho
  cases ho
  exact hnf vs hd
 refine wpAny_bind (wpAny_frameOf_fun hfr hl hf fun g hs=>wpAny_bind (wpAny_entryPlaceOf fun pl hpl=>?_))
 unfold EntryCells.newEntry newFields
 refine wpAny_bind (wpAny_newObj_type ?_ (hpl.sizeOk5 _ _ _ _ _))
 have ge:g.get? e=some oe:=(hs.2.1 e hene).trans he
 generalize hto:([head,.ref L,.none,rawInt L,.none]++(if pl.isEmpty then List.replicate 6 Value.none else pl)).toArray=tv
 have t3:3<tv.size:=by
  rw [← hto]
  simp only [List.size_toArray,List.length_append,List.length_cons,List.length_nil]
  omega
 have pe:=Heap.get?_push_of_some (h:=g) { cls:=.type "traceback",dict:=none,data:=.fields tv } ge
 refine wpAny_setField pe hd hsz ?_
 have ne:g.objs.size≠e:=Nat.ne_of_gt (Heap.lt_size ge)
 have d3:=Obj.data_mapFields hd (·.setIfInBounds 1 (Value.ref g.objs.size))
 have e3:=Heap.get?_update_self (Obj.mapFields (·.setIfInBounds 1 (Value.ref g.objs.size))) pe (Obj.isFreed_of_fields d3)
 have T3:=(Heap.get?_update_other (g.push { cls:=.type "traceback",dict:=none,data:=.fields tv }) (Obj.mapFields (·.setIfInBounds 1 (Value.ref g.objs.size))) (Ne.symm ne)).trans (Heap.get?_push_size g rfl)
 unfold setFlight
 refine wpAny_bind (wpAny_field e3 d3 (x:=.ref g.objs.size) (by simp [hsz]) ?_)
 rw [if_pos (show (Value.ref g.objs.size != Value.none)=true by simp)]
 refine wpAny_setField T3 rfl t3 ?_
 have hgz:s.heap.objs.size≤g.objs.size:=Nat.le_of_eq hs.1.symm
 have keep:∀ b o,b≠e->g.get? b=some o->(((g.push { cls:=.type "traceback",dict:=none,data:=.fields tv }).update e (Obj.mapFields (·.setIfInBounds 1 (Value.ref g.objs.size)))).update g.objs.size (Obj.mapFields (·.setIfInBounds 3 ((none:Option Addr).elim Value.none fun f=>rawInt f)))).get? b=some o:=fun b o hb hg=>by
  rw [Heap.get?_update_other _ _ (Nat.ne_of_gt (Heap.lt_size hg)),Heap.get?_update_other _ _ (Ne.symm hb)]
  exact Heap.get?_push_of_some _ hg
 refine h _ g.objs.size _ _ _ _ hgz (by rw [Heap.get?_update_other _ _ ne];exact e3) (Obj.cls_mapFields _ _) (mapF_dict _ _) d3 (by simp [hsz]) (Heap.get?_update_self _ T3 (Obj.isFreed_of_fields (Obj.data_mapFields rfl _))) (Obj.data_mapFields rfl _) (by simp [t3]) (fun b o hb hbf hbo=>keep b o hb ((hs.2.1 b hbf).trans hbo)) fun b o hb hbo=>?_
 obtain ⟨sl,q⟩:=hs.2.2 b o hbo
 exact ⟨sl,keep b _ hb q⟩
end
section
variable {X:Cx} {pins:List (Addr×Obj)} {σ:St} {H:Hp} {s:Shared} {e:Addr} {cls:Value} {dd:Option Addr}
theorem leaveX {A:Around} {Q:Unit->Shared->Prop} {E:Value->Shared->Prop} (I:Inv X pins σ H s) (hst:X.stack=X.env::X.outer) (hfm:X.env.frame=some X.env.locals) (hfr:A.frames=some X.stack) (hex:X.ex=[]) (x:ah4 s.heap H X.s₀.heap e cls dd)
 (h:∀ h',ah4 h' H X.s₀.heap e cls dd->Un (frs X.outer) [] X.H₀ H X.s₀.heap h'->HOk X.prog X.w H h'->Q () { s with heap:=h' }):wpAny (model X.prog X.w) A (leaving X.env (.ref e)) Q E s:=by
 have hl:=I.stack
 rw [hst] at hfr hl
 obtain ⟨oe,vs,h1,h2,h3,h4,h5,h6,h7⟩:=x
 have free:∀ b∈(X.env::X.outer).filterMap (·.frame),H b=none:=fun b hb=>I.stkFree b (by rw [hst];exact hb)
 have fin:∀ (h':Heap) (T:Addr) (oe' oT:Obj) (vs' ts:Array Value),X.s₀.heap.get? T=none->T≠e->H T=none->h'.get? e=some oe'->oe'.cls=oe.cls->oe'.dict=oe.dict->oe'.data=.fields vs'->vs'[1]?=some (.ref T)->h'.get? T=some oT->oT.data=.fields ts->ts[3]?=some .none->
  (∀ b o,b≠e->(H b≠none∨∃ o₀,X.s₀.heap.get? b=some o₀)->b∉(X.env::X.outer).filterMap (·.frame)->s.heap.get? b=some o->h'.get? b=some o)->(∀ b o,(∃ o₀,X.s₀.heap.get? b=some o₀)->s.heap.get? b=some o->∃ sl,h'.get? b=some { o with slots:=sl })->Q () { s with heap:=h' }:=by
  intro h' T oe' oT vs' ts hT hTe hTn g1 g2 g3 g4 g5 g6 g7 g8 kp ks
  refine h h' ⟨oe',vs',g1,g2.trans h2,g3.trans h3,g4,h5,h6,.inr ⟨T,oT,ts,g5,hTe,g6,g7,g8,hT,hTn⟩⟩ ?_ ?_
  ·have B:=I.base
   rw [hex] at B
   have nl:∀ b o,X.s₀.heap.get? b=some o->b<X.s₀.heap.objs.size:=fun b o z=>Heap.lt_size z
   have ninF:∀ b,b<X.s₀.heap.objs.size->b∉frs X.outer->b∉(X.env::X.outer).filterMap (·.frame):=fun b hb hn hm=>by
    rw [List.filterMap_cons,hfm] at hm
    rcases List.mem_cons.mp hm with rfl|hm
    ·exact absurd (Nat.lt_of_lt_of_le hb I.ok.above) (Nat.lt_irrefl _)
    ·exact hn hm
   refine ⟨fun b o z n hb hx=>kp b o (fun q=>by subst q;rw [h5] at z;cases z) (.inr ⟨o,z⟩) (ninF b (nl b o z) hb) (B.keep b o z n hb hx),fun b o z n hb hx=>?_,B.free,fun b o z hx=>?_,B.tups,B.frzs,B.tbls⟩
   ·obtain ⟨sl,q⟩:=B.slot b o z n hb hx
    obtain ⟨sl',q'⟩:=ks b _ ⟨o,z⟩ q
    exact ⟨sl',q'⟩
   ·obtain ⟨o',q⟩:=B.there b o z hx
    obtain ⟨sl',q'⟩:=ks b _ ⟨o,z⟩ q
    exact ⟨_,q'⟩
  ·intro b u hb
   refine (I.hok b u hb).stay (fun c v hc q=>kp c v ?_ (.inl ?_) ?_ q) (fun _ q=>q) fun _ _ q=>q
   ·rintro rfl
    rcases hc with rfl|z
    ·rw [h6] at hb;cases hb
    ·rw [h6] at z;cases z
   ·rcases hc with rfl|z
    ·rw [hb];simp
    ·rw [z];simp
   ·intro hm
    have:=free c hm
    rcases hc with rfl|z
    ·rw [this] at hb;cases hb
    ·rw [this] at z;cases z
 unfold leaving noteFrame
 simp only [hfm]
 rcases h7 with h7|⟨T,oT,ts,t1,t2,t3,t4,t5,t6,t7⟩
 ·refine wpAny_bind (wpAny_bind (wpAny_field h1 h4 h7 ?_))
  rw [if_neg (by decide)]
  refine entryX hfr hl hfm h1 h4 (Array.getElem?_eq_some_iff.mp h7).1 fun h' T oe' oT vs' ts hT g1 g2 g3 g4 g5 g6 g7 g8 kp ks=>?_
  have hTe:T≠e:=fun q=>by subst q;exact absurd (Nat.lt_of_lt_of_le (Heap.lt_size h1) hT) (Nat.lt_irrefl _)
  exact fin h' T oe' oT vs' ts (Heap.get?_none_of_le (Nat.le_trans I.sz hT)) hTe (I.hok.fresh hT) g1 g2 g3 g4 g5 g6 g7 g8 (fun b o hb _ hm z=>kp b o hb hm z) fun b o hb z=>ks b o (fun q=>by subst q;obtain ⟨_,hb⟩:=hb;rw [h5] at hb;cases hb) z
 ·refine wpAny_bind (wpAny_bind (wpAny_field h1 h4 t1 ?_))
  rw [if_pos (show (Value.ref T != Value.none)=true by simp)]
  refine wpAny_bind (wpAny_field t3 t4 t5 ?_)
  rw [if_neg (show ¬ ((Value.none == rawInt X.env.locals)=true) by simp [rawInt])]
  refine wpAny_bind (wpAny_setField t3 t4 (Array.getElem?_eq_some_iff.mp t5).1 ?_)
  have other:∀ b,b≠T->(s.heap.update T (Obj.mapFields (·.setIfInBounds 3 Value.none))).get? b=s.heap.get? b:=fun b hb=>Heap.get?_update_other _ _ (Ne.symm hb)
  have noR:∀ b o,s.heap.get? b=some o->(∀ vs,o.data≠.fields vs)->b≠T:=fun b o hb hnf q=>by
   subst q
   rw [t3] at hb
   cases hb
   exact hnf ts t4
  refine entryX (s:={ s with heap:=s.heap.update T (Obj.mapFields (·.setIfInBounds 3 Value.none)) }) hfr (hl.of_keeps fun b o hb hnf=>⟨o,(other b (noR b o hb hnf)).trans hb,rfl⟩) hfm ((other e (Ne.symm t2)).trans h1) h4 (Array.getElem?_eq_some_iff.mp t1).1 fun h' T' oe' oT' vs' ts' hT g1 g2 g3 g4 g5 g6 g7 g8 kp ks=>?_
  have hT':s.heap.objs.size≤T':=by
   have z:(s.heap.update T (Obj.mapFields (·.setIfInBounds 3 Value.none))).objs.size=s.heap.objs.size:=Heap.size_update _ _ _
   exact Nat.le_trans (Nat.le_of_eq z.symm) hT
  have hTe:T'≠e:=fun q=>by subst q;exact absurd (Nat.lt_of_lt_of_le (Heap.lt_size h1) hT') (Nat.lt_irrefl _)
  refine fin h' T' oe' oT' vs' ts' (Heap.get?_none_of_le (Nat.le_trans I.sz hT')) hTe (I.hok.fresh hT') g1 g2 g3 g4 g5 g6 g7 g8 (fun b o hb hq hm z=>kp b o hb hm ((other b ?_).trans z)) fun b o hb z=>ks b o (fun q=>by subst q;obtain ⟨_,hb⟩:=hb;rw [h5] at hb;cases hb) ((other b ?_).trans z)
  ·rintro rfl
   rcases hq with hq|hq
   ·exact hq t7
   ·obtain ⟨_,hq⟩:=hq
    rw [t6] at hq;cases hq
  ·rintro rfl
   obtain ⟨_,hb⟩:=hb
   rw [t6] at hb;cases hb
end
def CX1 (P:Program) (w:World):CXT:=fun outer H s E e s'=>∃ (ea:Addr) (cls:Value) (dd:Option Addr) (H':Hp),e=.ref ea/\s'.os=s.os/\AllBare s'.gens/\Un (frs outer) [] H H' s.heap s'.heap/\HOk P w H' s'.heap/\ah4 s'.heap H' s.heap ea cls dd/\E cls dd H'
section
variable {P:Program} {w:World} {K:PySem.W.Frag} {mg:Str->Option Value} {base:Heap} {N:List Str} {qual:Str} {scope:Scope} {f:Addr} {cd:Value} {A:Around} {outer:List Env} {s:Shared} {H:Hp} {E:XK}
theorem xe1 {pins:List (Addr×Obj)} {σ:St} {H':Hp} {s':Shared} {e:Addr} {cls:Value} {dd:Option Addr} (I:Inv (cxOf (CX1 P w) P w K mg base N qual scope f cd A outer s H E) pins σ H' s') (x:ah4 s'.heap H' s.heap e cls dd) (h:E cls dd H') :
 (cxOf (CX1 P w) P w K mg base N qual scope f cd A outer s H E).xe (.ref e) s':=
 leaveX I rfl rfl I.ok.frames rfl x fun h' x' u k=>⟨e,cls,dd,H',rfl,I.os,I.bare,u,k,x',h⟩
theorem pass1 {E':XK} (hE:∀ cls dd H',E' cls dd H'->E cls dd H'):ae4 (CX1 P w) (cxOf (CX1 P w) P w K mg base N qual scope f cd A outer s H E) E':=by
 intro pins σ H1 s1 e s' I h
 obtain ⟨ea,cls,dd,H',rfl,os,bare,un,hok,x,q⟩:=h
 obtain ⟨hh,g,d,t,os'⟩:=s'
 obtain rfl:os'=s1.os:=os
 have I':Inv (cxOf (CX1 P w) P w K mg base N qual scope f cd A outer s H E) pins σ H' ⟨hh,g,d,t,s1.os⟩:=I.call (h':=hh) (g':=g) (d':=d) (t':=t) (ch:=[]) un hok bare (fun b z=>absurd z (by simp))
 refine xe1 I' (x.mono fun b hb=>?_) (hE _ _ _ q)
 cases z:s.heap.get? b with
 |none=>rfl
 | some o=>
   obtain ⟨o',q'⟩:=I.base.there b o z (by intro hz;cases hz)
   rw [hb] at q';cases q'
end
end L2
namespace L2
open PySem PySem.Spec PyProof.Rows PySem.SeqAt PySem.W
def al1 (K:Frag) (C:Addr) (B newId:String):Bool:=match K.lookup C with
 |some ⟨_,_,.cls cd,sl⟩=>!cd.abstract && !cd.hasDel && (sl.toList[4]?).join == some (.builtin newId) && !cd.mro.isEmpty && cd.mro.contains (.ref C) && cd.mro.contains (.type B) && cd.mro.contains (.type "BaseException") && !cd.mro.contains (.type "AttributeError") && !cd.mro.contains (.type "NameError") &&
  specialIn K (.ref C) "__call__" == some (some (.builtin "type.__call__")) && instIn K (.ref C) (.type "type") == some true
 |_=>false
structure MakesX (M:Model) (h:Heap) (C:Addr) (B newId:String):Prop where
 obj:∃ oc od cd sl,h.get? C=some ⟨oc,od,.cls cd,sl⟩/\cd.abstract=false/\cd.hasDel=false/\cd.mro.isEmpty=false
 made:Looks M h (Bind.madeBy (.ref C)) (some newId)
 base:Looks M h (Bind.staticBase (.ref C)) (.ref C)
 self:Looks M h (isSubtype (.ref C) (.ref C)) true
 isB:Looks M h (isSubtype (.ref C) (.type B)) true
 isE:Looks M h (isSubtype (.ref C) (.type "BaseException")) true
 noA:Looks M h (isSubtype (.ref C) (.type "AttributeError")) false
 noN:Looks M h (isSubtype (.ref C) (.type "NameError")) false
 call:Looks M h (specialOf (.ref C) "__call__") (some (.builtin "type.__call__"))
 typ:Looks M h (isInstance (.ref C) (.type "type")) true
theorem aj5 {K:Frag} {M:Model} {h:Heap} (X:K.In h) {C:Addr} {B newId:String} (e:al1 K C B newId=true):MakesX M h C B newId:=by
 unfold al1 at e
 split at e
 ·rename_i oc od cd sl ho
  simp only [Bool.and_eq_true,Bool.not_eq_true',beq_iff_eq] at e
  obtain ⟨⟨⟨⟨⟨⟨⟨⟨⟨⟨e1,e2⟩,e3⟩,e4⟩,e5⟩,e6⟩,e7⟩,e8⟩,e9⟩,e10⟩,e11⟩:=e
  have hc:clsIn K C=some cd:=by unfold clsIn;rw [ho]
  have hm:Looks M h (mroOf (.ref C)) cd.mro:=(looks_clsIn X hc).andThen .now
  obtain ⟨c,l,hl⟩:∃ c l,cd.mro=c::l:=by
   cases q:cd.mro with
   |nil=>rw [q] at e4;cases e4
   |cons c l=>exact ⟨c,l,rfl⟩
  have made:Looks M h (Bind.madeBy (.ref C)) (some newId):=by
   intro A Q E s k q
   unfold Bind.madeBy
   refine wpAny_bind (hm A _ E s k ?_)
   rw [hl,List.forIn_cons]
   refine wpAny_bind (wpAny_bind (wpAny_bind (wpAny_bind (wpAny_loadPart (k _ _ (X _ _ ho)) (wpAny_pure ?_)))))
   dsimp only
   rw [← Array.getElem?_toList,e3]
   exact wpAny_pure (wpAny_pure (wpAny_pure q))
  have sub:∀ (v:Value) (b:Bool),cd.mro.contains v=b->Looks M h (isSubtype (.ref C) v) b:=fun v b z=>looks_mroIn X (by unfold mroIn;rw [hc,Option.bind_some,if_neg (by rw [e4];decide),z])
  refine ⟨⟨oc,od,cd,sl,X _ _ ho,e1,e2,e4⟩,made,?_,sub _ _ e5,sub _ _ e6,sub _ _ e7,sub _ _ e8,sub _ _ e9,looks_specialIn X e10,looks_instIn X e11⟩
  intro A Q E s k q
  unfold Bind.staticBase
  refine wpAny_bind (hm A _ E s k ?_)
  rw [hl,List.forIn_cons]
  exact wpAny_bind (wpAny_bind (wpAny_bind (made A _ E s k (wpAny_pure (wpAny_pure (wpAny_pure q))))))
 ·cases e
abbrev af7 (C t:Addr):Obj:={ cls:=.ref C,data:=.fields #[.ref t,.none,.none,.none,.bool false,.none] }
section
variable {prog:Program} {w:World} {A:Around} {C:Addr} {R:Result->Shared->Prop} {h:Heap} {g:Array GenState} {d:Drawn} {t:Nat} {os:OsState} {B newId initId:String} {bm:List Value}
theorem newX (F:ExcBaseFacts B newId initId bm) {rest:List Value} (Y:MakesX (model prog w) h C B newId) (hrest:rest.length≤sizeLine)
 (hq:R (.ok (.ret (.ref (h.objs.size+1)))) ⟨(h.push { cls:=.type "tuple",data:=.seq rest.toArray }).push (af7 C h.objs.size),g,d,t,os⟩) :
 codeAny (model prog w) A (.call (.builtin newId) ⟨.ref C::rest,[]⟩) R ⟨h,g,d,t,os⟩:=by
 obtain ⟨⟨oc,od,cd,sl,hC,e1,e2,e4⟩,made,base,self,isB,isE,noA,noN,call,typ⟩:=Y
 have hstar:=F.noStar
 have hends:=F.ends
 refine codeAny_call_builtin_code (Code.quiet_builtin _ F.quiet) ?_
 simp only [checkBuiltinCall,F.newKind,F.newSplit,F.newRow]
 have here:Looks (model prog w) h (Bind.madeHere newId (.ref C)) ():=base.andThen (made.andThen (Looks.of_pure (by simp only [Option.map_some,bne_self_eq_false,Bool.false_eq_true,if_false])))
 repeat (first|simp only [bne_self_eq_false,Bool.false_eq_true,if_false]|lk)
 repeat (first|wp_step)
 refine PySem.codeAny_builtinAt F.entry ?_
 unfold Builtin.«BaseException.__new__»
 refine PySem.wpAt_bind ?_
 show PySem.wpAt _ _ _ (stack >>= _) _ _ _
 refine PySem.wpAt_bind (PySem.wpAt_stack fun p below=>PySem.wpAt_of_wpAny ?_)
 wp_walk
 refine PySem.wpAt_of_wpAny ?_
 rw [F.owner]
 have here2:Looks (model prog w) h (Bind.madeHere "BaseException.__new__" (.ref C)) ():=base.andThen (made.andThen (Looks.of_pure (by simp only [Option.map_some,F.canon,bne_self_eq_false,Bool.false_eq_true,if_false])))
 repeat (first|with_reducible refine here2.at ?_|with_reducible refine isB.at ?_|with_reducible refine noA.at ?_|with_reducible refine noN.at ?_|with_reducible refine wpAny_loadPart_at hC ?_|wp_step)
 show R _ _
 rw [Heap.size_push]
 exact hq
theorem makeX_core (F:ExcBaseFacts B newId initId bm) {rest:List Value} {init:Value} (Y:MakesX (model prog w) h C B newId) (hi:Looks (model prog w) h (typeLookup (.ref C) "__init__") (some init)) (hb:∀ self,Looks (model prog w) h (bindSpecial init self) (init,[self])) (hrest:rest.length≤sizeLine)
 (hq:codeAny (model prog w) (A.under (.builtin "type.__call__" ⟨.ref C::rest,[]⟩)) (.call init ⟨.ref (h.objs.size+1)::rest,[]⟩) (InitBack (h.objs.size+1) R) ⟨(h.push { cls:=.type "tuple",data:=.seq rest.toArray }).push (af7 C h.objs.size),g,d,t,os⟩) :
 codeAny (model prog w) A (.call (.ref C) ⟨rest,[]⟩) R ⟨h,g,d,t,os⟩:=by
 have Y':=Y
 obtain ⟨⟨oc,od,cd,sl,hC,e1,e2,e4⟩,made,base,self,isB,isE,noA,noN,call,typ⟩:=Y
 refine codeAny_of_tree ?_
 show wpAny _ _ (callAny (.ref C) _) _ _ _
 refine nd_load hC ?_
 show wpAny _ _ (callAny.viaDunder (.ref C) _) _ _ _
 unfold callAny.viaDunder
 refine wpAny_bind (call.at ?_)
 dsimp only
 rw [tc_bind]
 refine wpAny_bind (wpAny_pure (wpAny_bind (wpAny_pure (wpAny_pure (a:=Fin.again (.call (.builtin "type.__call__") ⟨.ref C::rest,[]⟩)) (And.intro rfl ?_)))))
 refine codeAny_call_builtin_at (Code.quiet_builtin _ (by decide +kernel)) entry_typeCall (check_slot tc_kind tc_split typ (tc_args _ _ _) ?_)
 unfold Builtin.«type.__call__»
 have hm:Looks (model prog w) h (mroOf (.ref C)) cd.mro:=((Looks.ld (part:=none) hC).andThen .now).andThen .now
 repeat (first|simp only [e4,Bool.false_eq_true,if_false]|with_reducible refine wpAny_call ?_|lk)
 refine newX F Y' hrest ?_
 have k:∀ b o,h.get? b=some o->((h.push { cls:=.type "tuple",data:=.seq rest.toArray }).push (af7 C h.objs.size)).get? b=some o:=fun b o e=>Heap.get?_push_of_some _ (Heap.get?_push_of_some _ e)
 have hx:((h.push { cls:=.type "tuple",data:=.seq rest.toArray }).push (af7 C h.objs.size)).get? (h.objs.size+1)=some (af7 C h.objs.size):=by
  have:=Heap.get?_push_size (h.push { cls:=.type "tuple",data:=.seq rest.toArray }) (o:=af7 C h.objs.size) rfl
  rwa [Heap.size_push] at this
 have t1:Looks (model prog w) ((h.push { cls:=.type "tuple",data:=.seq rest.toArray }).push (af7 C h.objs.size)) (typeOf (.ref (h.objs.size+1))) (.ref C):=(Looks.ld hx).andThen .now
 have s1:=self.keeps k
 have i1:=hi.keeps k
 have b1:=(hb (.ref (h.objs.size+1))).keeps k
 unfold isInstance callSpecial? specialOf
 repeat (first|with_reducible refine wpAny_call ?_|lk)
 refine codeAny_mono hq fun r s' z=>?_
 rcases r with e|(v|_|_|_) <;> first|exact z|exact z.elim|skip
 obtain ⟨rfl,z⟩:=z
 exact wpAny_pure (wpAny_pure z)
end
end L2
namespace L2
open PySem PySem.Spec PyProof.Rows PySem.SeqAt PySem.W Builtin.ObjectAttr
def excO (e C:Addr) (dd:Option Addr):HO:=.ext fun h=>∃ a0:Value,h.get? e=some { cls:=.ref C,dict:=dd,data:=.fields #[a0,.none,.none,.none,.bool false,.none] }
def exD (da:Addr) (fs:List (Str×V)):HO:=.ext fun h=>∃ mA,h.Ns1 da mA/\(∀ f,RelO (fs.lookup f) (mA f))/\PySem.Within mA (fs.map (·.1))
theorem excO_ok {P:Program} {w:World} {H:Hp} {h:Heap} {e C:Addr} {dd:Option Addr} {a0:Value} (x:h.get? e=some { cls:=.ref C,dict:=dd,data:=.fields #[a0,.none,.none,.none,.bool false,.none] }):ab6 P w H h e (excO e C dd):=
 ⟨⟨a0,x⟩,⟨_,x⟩,fun h1 h2 ⟨a,z⟩ k=>⟨a,k _ z⟩⟩
theorem exD_ok {P:Program} {w:World} {H:Hp} {h:Heap} {da:Addr} {fs:List (Str×V)} {mA:Str->Option Value} (x:h.Ns1 da mA) (r:∀ f,RelO (fs.lookup f) (mA f)) (wi:PySem.Within mA (fs.map (·.1))):ab6 P w H h da (exD da fs):=by
 obtain ⟨o,es,ep,ho,rest⟩:=id x
 refine ⟨⟨mA,x,r,wi⟩,⟨o,ho⟩,fun h1 h2 z k=>?_⟩
 obtain ⟨mB,⟨o',es',ep',ho',rest'⟩,r',wi'⟩:=z
 exact ⟨mB,⟨o',es',ep',k _ ho',rest'⟩,r',wi'⟩
theorem ap0 (self:Value) {bm:List Value} (hb:refuseLoop self "__setattr__" bm=pure ()) (hne:bm≠[]):∀ (rs:List Addr),refuseLoop self "__setattr__" (rs.map Value.ref++bm)=pure ()
 |[]=>hb
 | c::r=>by
   rw [List.map_cons,List.cons_append,refuseLoop_ref]
   exact ap0 self hb hne r
structure XCls (K:Frag) (C:Addr) (B newId:String):Prop where
 mks:al1 K C B newId=true
 sa:findIn K (.ref C) "__setattr__" = some (some (.builtin "object.__setattr__"))
 cd:∃ (cd:ClassData) (rs:List Addr) (bm:List Value),clsIn K C=some cd/\cd.hasDict=true/\cd.mro=rs.map Value.ref++bm/\bm≠[]/\(∀ self,refuseLoop self "__setattr__" bm=pure ())/\bm.contains (.type "object")=true
 kp:keepIn K (.ref C)=true
 ty:typeIn K (.ref C)=some (.type "type")
section
variable {prog:Program} {w:World} {A:Around} {R:Result->Shared->Prop} {s:Shared} {K:Frag} {x C:Addr} {name:Str}
theorem osaX {ox:Obj} {od:Option Obj} {tk:Tok} {v:Value} {B newId:String} (X:K.In s.heap) (I:InstAt s.heap x ox C od) (XC:XCls K C B newId) (ht:takerIn K C name=some none)
 (h:∀ b,wpAny (model prog w) A.in1 (Builtin.ObjectAttr.storeInOwnDict (.ref x) (.ref C) (.str name tk) name v b) (fun fin s'=>match fin with|.done f=>R (.ok f) s'|.again c'=>c'.quiet=true/\codeAny (model prog w) A c' R s') (fun e s'=>R (.error e) s') s) :
 codeAny (model prog w) A (.call (.builtin "object.__setattr__") ⟨[.ref x,.str name tk,v],[]⟩) R s:=by
 have SF:=PySem.F.store_object
 obtain ⟨cd,rs,bm,hc,hdct,hmro,hne,hrf,hob⟩:=XC.cd
 have ne:cd.mro.isEmpty=false:=by
  rw [hmro]
  cases rs with
  |nil=>cases bm with|nil=>exact absurd rfl hne|cons _ _=>rfl
  |cons _ _=>rfl
 have hcon:cd.mro.contains (.type "object")=true:=by
  rw [hmro,List.contains_eq_mem,decide_eq_true_eq]
  rw [List.contains_eq_mem,decide_eq_true_eq] at hob
  exact List.mem_append_right _ hob
 have sub:Looks (model prog w) s.heap (isInstance (.ref x) (.type "object")) true:=I.type.andThen (looks_mroIn X (by unfold mroIn;rw [hc,Option.bind_some,if_neg (by rw [ne];decide),hcon]))
 refine codeAny_call_builtin SF.slot.plain SF.entry (@check_slot (model prog w) _ _ s "object.__setattr__" "object" "__setattr__" (.ref x) [.str name tk,v] [] _ SF.kind SF.split sub (SF.args (.ref x) (.str name tk) v) ?_)
 obtain ⟨attr,ha,hr⟩:=Option.bind_eq_some_iff.mp ht
 have hm:Looks (model prog w) s.heap (mroOf (.ref C)) cd.mro:=(looks_clsIn X hc).andThen .now
 have L3:Looks (model prog w) s.heap (storeTaker? attr) none:=by
  cases attr with
  |none=>exact .now
  | some a=>
    obtain ⟨b,hb,q⟩:=Option.map_eq_some_iff.mp hr
    refine (looks_takesIn X hb).andThen ?_
    cases b with
    |false=>exact .now
    |true=>cases q
 rw [osa_eq,refuse_eq]
 refine wpAny_bind (wpAny_bind (I.type.here (wpAny_bind (hm.here ?_))))
 rw [hmro,ap0 _ (hrf _) hne]
 refine wpAny_pure (wpAny_bind (I.type.here (wpAny_bind ((looks_findIn X ha).here (wpAny_bind (L3.here ?_))))))
 exact h _
end
section
variable {prog:Program} {w:World} {A:Around} {E:Value->Shared->Prop} {s:Shared} {K:Frag} {x C:Addr} {name:Str} {v:Value} {tk:Tok} {Q:Fin->Shared->Prop} {vs:Array Value} {sl:Array (Option Value)}
theorem storeX_new {cd:ClassData} {b:Bool} (X:K.In s.heap) (hx:s.heap.get? x=some ⟨.ref C,none,.fields vs,sl⟩) (hc:clsIn K C=some cd) (hd:cd.hasDict=true)
 (h:∀ h',h'.Ns1 s.heap.objs.size (fun y=>if y=name then some v else none)->h'.get? x=some ⟨.ref C,some s.heap.objs.size,.fields vs,sl⟩->(∀ b o,b≠x->s.heap.get? b=some o->h'.get? b=some o)->Q (.done (.ret .none)) { s with heap:=h',toks:=s.toks+1 }) :
 wpAny (model prog w) A (storeInOwnDict (.ref x) (.ref C) (.str name tk) name v b) Q E s:=by
 unfold storeInOwnDict
 refine wpAny_bind (wpAny_pure (wpAny_bind (wpAny_bind (wpAny_loadPart hx (wpAny_bind (Looks.here (looks_clsIn X hc) ?_))))))
 rw [hd]
 have hx1:(s.heap.push { cls:=.type "dict",data:=.dict #[] }).get? x=some ⟨.ref C,none,.fields vs,sl⟩:=Heap.get?_push_of_some _ hx
 have hxs:x≠s.heap.objs.size:=Nat.ne_of_lt (Heap.lt_size hx)
 show wpAny _ _ (do
  let d ← alloc { cls:=Value.type "dict",data:=Data.dict #[] }
  update x fun o=>{ cls:=o.cls,dict:=some d,data:=o.data,slots:=o.slots }
  dictMade (Value.ref C) x d) _ _ _
 refine wpAny_bind (wpAny_alloc' (wpAny_bind (wpAny_update' hx1 ?_)))
 refine wpAny_pure ?_
 have hgd:((s.heap.push { cls:=.type "dict",data:=.dict #[] }).update x fun o=>{ cls:=o.cls,dict:=some s.heap.objs.size,data:=o.data,slots:=o.slots }).get? s.heap.objs.size=some { cls:=.type "dict",data:=.dict #[] }:=(Heap.get?_update_ne _ _ _ _ hxs.symm).trans (Heap.get?_push_at rfl rfl)
 have hnd:((s.heap.push { cls:=.type "dict",data:=.dict #[] }).update x fun o=>{ cls:=o.cls,dict:=some s.heap.objs.size,data:=o.data,slots:=o.slots }).Ns s.heap.objs.size (fun _=>none):=⟨_,#[],_,hgd,rfl,fun e he=>absurd he (by simp),fun _=>rfl⟩
 show wpAny _ _ (storeInDict s.heap.objs.size (.str name tk) name v) _ _ _
 unfold storeInDict newKeyGuard
 refine wpAny_bind (wpAny_pure (wpAny_bind (wpAny_nsSet1 (s:={ s with heap:=_ }) (Heap.Ns1.of_empty hnd) fun h' hn' hs=>?_)))
 obtain ⟨oD,esD,epD,hoD,hdD,hcD⟩:=hn'.count (PySem.Within.cons name v PySem.Within.nil)
 refine wpAny_bind (wpAny_lookBehind hoD (by rw [hdD];exact pastItsLine_dict (Nat.le_trans hcD (by rw [List.length_cons,List.length_nil,sizeLine_eq];omega))) ?_)
 refine wpAny_pure (h h' hn' ?_ fun b o hb hbo=>?_)
 ·exact (hs.2 x hxs).trans (Heap.get?_update_self _ hx1 rfl)
 ·exact (hs.2 b (Nat.ne_of_lt (Heap.lt_size hbo))).trans ((Heap.get?_update_ne _ _ _ _ hb).trans (Heap.get?_push_of_some _ hbo))
theorem storeX_old {cd:ClassData} {b:Bool} {da:Addr} {mA:Str->Option Value} {ns:List Str} (X:K.In s.heap) (hx:s.heap.get? x=some ⟨.ref C,some da,.fields vs,sl⟩) (hc:clsIn K C=some cd) (hd:cd.hasDict=true) (hn:s.heap.Ns1 da mA) (hw:PySem.Within mA ns) (hz:ns.length<1000)
 (h:∀ h',h'.Ns1 da (fun y=>if y=name then some v else mA y)->Heap.SameBut da s.heap h'->Q (.done (.ret .none)) { s with heap:=h',toks:=s.toks+1 }) :
 wpAny (model prog w) A (storeInOwnDict (.ref x) (.ref C) (.str name tk) name v b) Q E s:=by
 unfold storeInOwnDict
 refine wpAny_bind (wpAny_pure (wpAny_bind (wpAny_bind (wpAny_loadPart hx (wpAny_bind (Looks.here (looks_clsIn X hc) ?_))))))
 rw [hd]
 refine wpAny_pure (a:=some da) ?_
 show wpAny _ _ (storeInDict da (.str name tk) name v) _ _ _
 unfold storeInDict newKeyGuard
 refine wpAny_bind (wpAny_pure (wpAny_bind (wpAny_nsSet1 hn fun h' hn' hs=>?_)))
 obtain ⟨oD,esD,epD,hoD,hdD,hcD⟩:=hn'.count (PySem.Within.cons name v hw)
 refine wpAny_bind (wpAny_lookBehind hoD (by rw [hdD];exact pastItsLine_dict (Nat.le_trans hcD (by rw [List.length_cons,sizeLine_eq];omega))) ?_)
 exact wpAny_pure (h h' hn' hs)
end
section
variable {X:Cx} {pins:List (Addr×Obj)} {σ:St} {H:Hp} {s:Shared} {e C:Addr} {f:Str} {B newId:String} {A:Around} {E:Value->Shared->Prop} {y:V} {u:Value} {Q:Unit->Shared->Prop}
theorem exc_at {dd:Option Addr} (I:Inv X pins σ H s) (he:H e=some (excO e C dd)):∃ a0,s.heap.get? e=some { cls:=.ref C,dict:=dd,data:=.fields #[a0,.none,.none,.none,.bool false,.none] }:=(show ab6 X.prog X.w H s.heap e (excO e C dd) from I.hok e _ he).1
theorem setX_new (I:Inv X pins σ H s) (he:H e=some (excO e C none)) (XC:XCls X.K C B newId) (ht:takerIn X.K C f=some none) (ry:RelV y u)
 (h:∀ da s',H da=none->Inv X pins σ (upd (upd H e (excO e C (some da))) da (exD da [(f,y)])) s'->Q () s'):wpAny (model X.prog X.w) A (setAttr (.ref e) f u) Q E s:=by
 obtain ⟨a0,hx⟩:=exc_at I he
 have J:InstAt s.heap e _ C none:=⟨hx,rfl,rfl,True.intro⟩
 obtain ⟨cd,rs,bm,hc,hdct,_⟩:=XC.cd
 refine set_plain I.kIn J XC.sa (osaX (s:={ s with toks:=s.toks+1 }) I.kIn J XC ht fun b=>storeX_new (s:={ s with toks:=s.toks+1 }) I.kIn hx hc hdct fun h' hn hx' hk=>?_)
 have fr:H s.heap.objs.size=none:=I.hok.fresh (Nat.le_refl _)
 have nes:e≠s.heap.objs.size:=Nat.ne_of_lt (Heap.lt_size hx)
 refine h s.heap.objs.size _ fr ?_
 have hx1:(s.heap.push emptyDict).get? e=some _:=Heap.get?_push_of_some _ hx
 have g1:(s.heap.push emptyDict).get? s.heap.objs.size=some emptyDict:=Heap.get?_push_size s.heap rfl
 have e3:(s.heap.push emptyDict).Ns s.heap.objs.size (fun _=>none):=⟨emptyDict,#[],_,g1,rfl,(fun e he=>absurd he (by simp)),fun _=>rfl⟩
 have I1:=I.laid (a:=s.heap.objs.size) (o:=exD s.heap.objs.size []) (h':=s.heap.push emptyDict) (t':=s.toks) (fun b u q=>Heap.get?_push_of_some _ q) (Nat.le_refl _) (exD_ok (Heap.Ns1.of_empty e3) (fun _=>True.intro) fun y hy=>absurd rfl hy)
 have hx2:=Heap.get?_update_self (fun o:Obj=>{ o with dict:=some s.heap.objs.size }) hx1 rfl
 have I2:=I1.write (x:=e) (e:=e) (o:=excO e C (some s.heap.objs.size)) (h':=(s.heap.push emptyDict).update e fun o=>{ o with dict:=some s.heap.objs.size }) (t':=s.toks) (by rw [a68 nes,he];exact True.intro) (.inl rfl)
  (fun b q hb z=>(Heap.get?_update_ne _ _ _ _ hb).trans z) ⟨_,hx2⟩ (excO_ok hx2)
 have I3:=I2.write (x:=s.heap.objs.size) (e:=s.heap.objs.size) (o:=exD s.heap.objs.size [(f,y)]) (h':=h') (t':=s.toks+1+1) (by rw [a68 nes.symm,a02];exact True.intro) (.inl rfl) (fun b q hb z=>?_) (let ⟨o,_,_,ho,_⟩:=hn;⟨o,ho⟩)
  (exD_ok hn (fun g=>?_) fun g hg=>?_)
 ·have e1:upd (upd (upd H s.heap.objs.size (exD s.heap.objs.size [])) e (excO e C (some s.heap.objs.size))) s.heap.objs.size (exD s.heap.objs.size [(f,y)])=upd (upd H e (excO e C (some s.heap.objs.size))) s.heap.objs.size (exD s.heap.objs.size [(f,y)]):=by
   funext b
   unfold upd
   split
   ·rfl
   ·split
    ·rfl
    ·rfl
  rw [e1] at I3
  exact I3
 ·by_cases hbe:b=e
  ·subst hbe
   have z':some q=some _:=z.symm.trans hx2
   cases z'
   exact hx'
  ·have z1:(s.heap.push emptyDict).get? b=some q:=(Heap.get?_update_ne _ _ _ _ hbe).symm.trans z
   have z2:s.heap.get? b=some q:=by
    rcases Heap.get?_push_cases z1 with z|z
    ·exact absurd z.1 hb
    ·exact z
   exact hk b q hbe z2
 ·have e2:List.lookup g [(f,y)]=if g=f then some y else none:=aa2 f g y []
  rw [e2]
  by_cases q:g=f
  ·rw [if_pos q,if_pos q];exact ry
  ·rw [if_neg q,if_neg q];exact True.intro
 ·by_cases q:g=f
  ·subst q;simp
  ·exact absurd (if_neg q) hg
end
section
variable {X:Cx} {CX:CXT} {k:Nat} {f C:Addr} {fd:FuncData} {ps:List Str} {sp:Sp} {dvs:List V} {ds:List Value} {E:XK} {B newId initId:String} {bm:List Value}
theorem run_makeX {pins:List (Addr×Obj)} {σ:St} {H:Hp} {s:Shared} {Q:VK} {us:List Value} {vs:List V} (BF:ExcBaseFacts B newId initId bm) (XC:XCls X.K C B newId) (hi:findIn X.K (.ref C) "__init__" = some (some (.ref f))) (hf:isFn X.K (.ref f)=true) (F:FnOk X.prog X.w X.K X.mg X.base CX k f fd ps sp) (hr:Room (k+1) X.A)
 (hb:Binds X.K fd ps ds) (hd:Vals dvs ds) (hx:ae4 CX X E) (I:Inv X pins σ H s) (r:Vals vs us) (hz:us.length≤sizeLine)
 (h:∀ e,H e=none->sp (.ref e::(vs++dvs)) (upd H e (excO e C none)) (fun v H2=>v=.non/\Q (.ref e) H2) E) :
 wpAny (model X.prog X.w) X.A (call (.ref C) us) (EP X pins σ Q) X.xe s:=by
 obtain ⟨hh,g,d,t,os⟩:=s
 have hq:=h (hh.objs.size+1) (I.hok.fresh (Nat.le_succ _))
 have hget:((hh.push { cls:=.type "tuple",data:=.seq us.toArray }).push (af7 C hh.objs.size)).get? (hh.objs.size+1)=some (af7 C hh.objs.size):=by
  have:=Heap.get?_push_size (hh.push { cls:=.type "tuple",data:=.seq us.toArray }) (o:=af7 C hh.objs.size) rfl
  rwa [Heap.size_push] at this
 have I2:Inv X pins σ (upd H (hh.objs.size+1) (excO (hh.objs.size+1) C none)) ⟨(hh.push { cls:=.type "tuple",data:=.seq us.toArray }).push (af7 C hh.objs.size),g,d,t,os⟩:=
  I.laid (h':=(hh.push { cls:=.type "tuple",data:=.seq us.toArray }).push (af7 C hh.objs.size)) (t':=t) (fun b u q=>Heap.get?_push_of_some _ (Heap.get?_push_of_some _ q)) (Nat.le_succ _) (excO_ok hget)
 have r2:Vals (V.ref (hh.objs.size+1)::(vs++dvs)) (Value.ref (hh.objs.size+1)::(us++ds)):=.cons rfl (r.append hd)
 have hl:(Value.ref (hh.objs.size+1)::us++ds).length=ps.length:=by
  have e:=r2.length
  rw [F.len _ _ _ _ hq] at e
  exact e.symm
 refine wpAny_call (makeX_core BF (aj5 I.kIn XC.mks) (looks_findIn I.kIn hi) (fun self=>bind_fn I.kIn self (beq_iff_eq.mp hf)) hz (codeAny_mono (F.run _ X.stack _ _ ⟨Value.ref (hh.objs.size+1)::us,[]⟩ (Value.ref (hh.objs.size+1)::(us++ds)) _ _ E (hr.make C us [])
  (I2.env0.make C us []) (hb _ (Value.ref (hh.objs.size+1)::us) I2.kIn hl) r2 hq) fun r s' hq'=>?_))
 match r,hq' with
 |.error e,hq'=>exact hx pins σ _ _ e s' I2 hq'
 | .ok (.ret u),hq'=>
   obtain ⟨v,H',I3,rv,ev,q3⟩:=I2.after hq'
   subst ev
   exact ⟨rv,⟨V.ref (hh.objs.size+1),H',I3,rfl,q3⟩⟩
def tMakeX (C:Addr) (sp:Sp) (dvs:List V) (E:XK) (t:TA):TE:=fun σ H Q=>t σ H fun vs H1=>∀ e,H1 e=none->sp (.ref e::(vs++dvs)) (upd H1 e (excO e C none)) (fun v H2=>v=.non/\Q (.ref e) H2) E
theorem as4 {x:Str} {p pos:Pos} {e:Expr} {es:List Expr} {t:TA} (BF:ExcBaseFacts B newId initId bm) (XC:XCls X.K C B newId) (hi:findIn X.K (.ref C) "__init__" = some (some (.ref f))) (hf:isFn X.K (.ref f)=true) (F:FnOk X.prog X.w X.K X.mg X.base CX k f fd ps sp) (hr:Room (k+1) X.A)
 (hg:Gl X x) (hm:X.mg x=some (.ref C)) (hb:Binds X.K fd ps ds) (hd:Vals dvs ds) (hx:ae4 CX X E) (ha:PA X (e::es) t) (hdb:(x == ("__debug__" : Str))=false:=by decide) (he:starEach (e::es) X.env=(false,eval e X.env)::starEach es X.env:=by rfl) (hpl:(backTo pos (starEach es X.env)).any (·.1)=false:=by rfl) (hle:ps.length≤20:=by decide) :
 PE X (.Call (.Name x p) (e::es) [] pos) (tMakeX C sp dvs E t):=by
 intro pins s σ H Q I h
 refine wpAny_Call_Name_kw (ak2 I hg hm ?_ hdb)
 refine callWith_K (h₀:=X.base) I.ok.mod.kin XC.kp (thn (ha pos pins s σ H _ I h) fun us s1 ⟨vs,H1,I1,r,q⟩=>⟨I1.kIn,?_⟩) he hpl
 refine run_makeX BF XC hi hf F hr hb hd hx I1 r ?_ q
 have h1:=F.len _ _ _ _ (q (s1.heap.objs.size) (I1.hok.fresh (Nat.le_refl _)))
 rw [List.length_cons,List.length_append] at h1
 have h2:=r.length
 exact Nat.le_trans (show us.length≤20 by omega) (by decide)
end
def unt (H:Hp) (a:Addr):Hp:=fun b=>if b=a then none else H b
theorem ar4 {H:Hp} {a:Addr}:unt H a a=none:=if_pos rfl
theorem unt_ne {H:Hp} {a b:Addr} (h:b≠a):unt H a b=H b:=if_neg h
theorem am2 {H:Hp} {a b:Addr} (h:H b=none):unt H a b=none:=by
 unfold unt
 split
 ·rfl
 ·exact h
section
variable {X:Cx} {pins:List (Addr×Obj)} {σ:St} {H:Hp} {s:Shared} {e C:Addr} {dd:Option Addr}
theorem Inv.unt (I:Inv X pins σ H s) (he:H e=some (excO e C dd)):Inv X pins σ (L2.unt H e) s:=by
 have up:∀ b u,H b=some u->u≠excO e C dd->L2.unt H e b=some u:=fun b u z hu=>by
  by_cases q:b=e
  ·subst q;rw [he] at z;exact absurd (Option.some.inj z).symm hu
  ·rw [unt_ne q];exact z
 refine ⟨I.ok,I.os,I.bare,⟨I.base.keep,I.base.slot,fun b o z n hx=>am2 (I.base.free b o z n hx),I.base.there,fun b xs z=>up b _ (I.base.tups b xs z) (by intro q;cases q),fun b o u z=>up b _ (I.base.frzs b o u z) (by intro q;cases q),fun b ps z=>?_⟩,I.loc,I.cell,am2 I.free,fun x c z=>am2 (I.freeC x c z),fun p hp=>?_,fun b u z=>?_,I.len⟩
 ·obtain ⟨m,q⟩:=I.base.tbls b ps z
  exact ⟨m,up b _ q (by intro q;cases q)⟩
 ·obtain ⟨p1,p2,p3⟩:=I.pin p hp
  exact ⟨p1,am2 p2,p3⟩
 ·by_cases q:b=e
  ·subst q;rw [ar4] at z;cases z
  ·rw [unt_ne q] at z
   exact (I.hok b u z).stay (fun c v _ r=>r) (fun c r=>up c _ r (by intro q;cases q)) fun c xs r=>up c _ r (by intro q;cases q)
def tRaise (X:Cx) (B newId:String) (W:XK) (te:TE):TS:=fun _ σ H=>te σ H fun x H1=>∃ e C dd,x=.ref e/\H1 e=some (excO e C dd)/\X.H₀ e=none/\XCls X.K C B newId/\W (.ref C) dd (unt H1 e)
theorem ar9 {ex:Expr} {pos:Pos} {te:TE} {W:XK} {B newId:String} (he:PE X ex te) (hcalm:X.calm=true) (hex:X.ex=[])
 (hxe:∀ (pins:List (Addr×Obj)) (σ:St) (H':Hp) (s':Shared) (e:Addr) (cls:Value) (dd:Option Addr),Inv X pins σ H' s'->ah4 s'.heap H' X.s₀.heap e cls dd->W cls dd H'->X.xe (.ref e) s'):PS X (.Raise (some ex) none pos) (tRaise X B newId W te):=by
 intro pins s σ H D I h
 rw [arm_exec_Raise]
 have key:∀ xs:Sem Value,wpAny (model X.prog X.w) X.A xs (EP X pins σ fun x H1=>∃ e C dd,x=.ref e/\H1 e=some (excO e C dd)/\X.H₀ e=none/\XCls X.K C B newId/\W (.ref C) dd (L2.unt H1 e)) X.xe s->wpAny (model X.prog X.w) X.A (raiseStmt X.env (some xs) none) (SP X pins D) X.xe s:=by
  intro xs hxs
  unfold raiseStmt
  refine wpAny_bind (thn hxs fun v s1 ⟨x,H1,I1,r1,e,C,dd,ex',hx,h0,XC,q⟩=>?_)
  subst ex'
  cases (show v=Value.ref e from r1)
  obtain ⟨a0,hg⟩:=exc_at I1 hx
  have Y:=aj5 (M:=model X.prog X.w) I1.kIn XC.mks
  obtain ⟨⟨oc,od,cd,sl,hC,e1,e2,e4⟩,made,base,self,isB,isE,noA,noN,call,typ⟩:=Y
  have T1:Looks (model X.prog X.w) s1.heap (typeOf (.ref e)) (.ref C):=(Looks.ld hg).andThen .now
  have fin:X.xe (.ref e) s1:=by
   refine hxe pins σ _ s1 e (.ref C) dd (I1.unt hx) ⟨_,_,hg,rfl,rfl,rfl,?_,ar4,.inl rfl⟩ q
   cases z:X.s₀.heap.get? e with
   |none=>rfl
   | some o=>
     have:=I1.base.free e o z h0 (by rw [hex];simp)
     rw [hx] at this;cases this
  have T2:Looks (model X.prog X.w) s1.heap (typeOf (.ref C)) (.type "type"):=looks_typeIn I1.kIn XC.ty
  have T3:Looks (model X.prog X.w) s1.heap (isInstance (.ref e) (.type "BaseException")) true:=T1.andThen isE
  have hh:X.A.handled=none:=I1.ok.hd hcalm
  clear I1 r1 hxs he h I XC made base self isB noA noN call typ
  obtain ⟨hp,g,d,tk,os⟩:=s1
  repeat (first|with_reducible refine wpAny_loadPart_at hg ?_|with_reducible refine T3.at ?_|with_reducible refine T1.at ?_|with_reducible refine T2.at ?_|wp_step)
  exact wpAny_raiseNew_none hh fin
 first
  |exact wpAny_bind (wpAny_standAt (key _ (wpAny_bind (thn (he pins s σ H _ I h) fun v s1 z=>wpAny_bind (wpAny_standAt (wpAny_pure z))))))
  |(simp only [evalOpt,Option.map];exact wpAny_bind (wpAny_standAt (key _ (wpAny_bind (thn (he pins s σ H _ I h) fun v s1 z=>wpAny_bind (wpAny_standAt (wpAny_pure z)))))))
end
section
variable {X:Cx} {pins:List (Addr×Obj)} {σ:St} {H:Hp} {s:Shared} {e C:Addr} {f:Str} {B newId initId:String} {bm:List Value} {A:Around} {E:Value->Shared->Prop} {y:V} {u:Value} {Q:Unit->Shared->Prop}
theorem setX_old {da:Addr} {fs:List (Str×V)} (I:Inv X pins σ H s) (he:H e=some (excO e C (some da))) (hd:H da=some (exD da fs)) (hl:fs.length<1000) (XC:XCls X.K C B newId) (ht:takerIn X.K C f=some none) (ry:RelV y u)
 (h:∀ s',Inv X pins σ (upd H da (exD da (putF f y fs))) s'->Q () s'):wpAny (model X.prog X.w) A (setAttr (.ref e) f u) Q E s:=by
 obtain ⟨a0,hx⟩:=exc_at I he
 obtain ⟨mA,hn,r,wi⟩:=(show ab6 X.prog X.w H s.heap da (exD da fs) from I.hok da _ hd).1
 obtain ⟨od,hod,_⟩:=ao4 hn
 have J:InstAt s.heap e _ C (some od):=⟨hx,rfl,rfl,hod⟩
 obtain ⟨cd,rs,bm,hc,hdct,_⟩:=XC.cd
 refine set_plain I.kIn J XC.sa (osaX (s:={ s with toks:=s.toks+1 }) I.kIn J XC ht fun b=>storeX_old (s:={ s with toks:=s.toks+1 }) (ns:=fs.map (·.1)) I.kIn hx hc hdct hn wi (by rw [List.length_map];exact hl) fun h' hn' hs=>?_)
 refine h _ (I.write (x:=da) (e:=da) (h':=h') (t':=s.toks+1+1) (by rw [hd];exact True.intro) (.inl rfl) (fun b q hb z=>(hs.2 b hb).trans z) (let ⟨o,_,_,ho,_⟩:=hn';⟨o,ho⟩) (exD_ok hn' (fun g=>?_) fun g hg=>?_))
 ·show RelO ((putF f y fs).lookup g) (if g=f then some u else mA g)
  rw [aa2]
  by_cases q:g=f
  ·rw [if_pos q,if_pos q];exact ry
  ·rw [if_neg q,if_neg q];exact r g
 ·by_cases q:g=f
  ·rw [q];exact (ag9 f y fs).1
  ·refine (ag9 f y fs).2 g (wi g fun z=>hg ?_)
   show (if g=f then some u else mA g)=none
   rw [if_neg q];exact z
def sFldX (K:Frag) (B newId:String) (ta tv:TE) (f:Str):TS:=fun D σ H=>tv σ H fun y H1=>ta σ H1 fun x H2=>∃ e C,x=.ref e/\XCls K C B newId/\takerIn K C f=some none/\
 ((H2 e=some (excO e C none)/\∀ da,H2 da=none->D.nx σ (upd (upd H2 e (excO e C (some da))) da (exD da [(f,y)])))∨
   ∃ da fs,H2 e=some (excO e C (some da))/\H2 da=some (exD da fs)/\fs.length<1000/\D.nx σ (upd H2 da (exD da (putF f y fs))))
theorem ps_fldX {o value:Expr} {pos pos':Pos} {ta tv:TE} (ha:PE X o ta) (hv:PE X value tv) (hs:swapsWith value (some (.Attribute o f pos')) pos.line X.env=pure false):PS X (.Assign [.Attribute o f pos'] value pos) (sFldX X.K B newId ta tv f):=by
 intro pins s σ H D I h
 refine plainObj_wpAny_Assign_Attribute (thn (hv pins s σ H _ I h) fun u s1 ⟨y,H1,I1,ry,q⟩=>thn (ha pins s1 σ H1 _ I1 q) fun ov s2 ⟨x,H2,I2,rx,e,C,ex,XC,ht,q2⟩=>?_) hs
 subst ex
 cases (show ov=Value.ref e from rx)
 rcases q2 with ⟨he,q2⟩|⟨da,fs,he,hd,hl,q2⟩
 ·exact setX_new I2 he XC ht ry fun da s' hda I3=>⟨σ,_,I3,q2 da hda⟩
 ·exact setX_old I2 he hd hl XC ht ry fun s' I3=>⟨σ,_,I3,q2⟩
theorem call_initX (BF:ExcBaseFacts B newId initId bm):ag5 X (.builtin initId) (fun xs H Q=>∃ e C dd y,xs=[.ref e,y]/\H e=some (excO e C dd)/\XCls X.K C B newId/\Q .non H):=by
 intro pins s σ H xs us Q I r h
 obtain ⟨e,C,dd,y,rfl,he,XC,q⟩:=h
 cases r with
 | cons r1 r=>
   cases r with
   | cons r2 r=>
     cases r
     rename_i u1 u2
     cases (show u1=Value.ref e from r1)
     obtain ⟨a0,hg⟩:=exc_at I he
     have Y:=aj5 (M:=model X.prog X.w) I.kIn XC.mks
     have T1:Looks (model X.prog X.w) s.heap (typeOf (.ref e)) (.ref C):=(Looks.ld hg).andThen .now
     have T3:Looks (model X.prog X.w) s.heap (isInstance (.ref e) (.type B)) true:=T1.andThen Y.isB
     have hshort:=BF.noStar
     refine wpAny_call (codeAny_call_builtin BF.init.plain BF.initEntry ?_)
     simp only [checkBuiltinCall,BF.initKind,BF.initSplit,BF.initRow]
     refine wpAny_bind (T3.here ?_)
     simp only [Bool.not_true,Bool.false_eq_true,if_false]
     obtain ⟨oc,od,cd,sl,hC,e1,e2,e4⟩:=Y.obj
     have T2:=Y.typ
     obtain ⟨hp,g,d,tk,os⟩:=s
     unfold Bind.checkArgs
     repeat (first|with_reducible refine wpAny_loadPart_at hg ?_|with_reducible refine wpAny_loadPart_at hC ?_|with_reducible refine T1.at ?_|wp_step)
     have fin:∀ tk',EP X pins σ Q .none ⟨(hp.push { cls:=Value.type "tuple",data:=Data.seq #[u2] }).update e (Obj.mapFields fun x=>x.setIfInBounds 0 (Value.ref hp.objs.size)),g,d,tk',os⟩:=fun tk'=>by
      have hg':hp.get? e=some { cls:=.ref C,dict:=dd,data:=.fields #[a0,.none,.none,.none,.bool false,.none] }:=hg
      have hg1:=Heap.get?_push_of_some (h:=hp) { cls:=Value.type "tuple",data:=Data.seq #[u2] } hg'
      have hg2:=Heap.get?_update_self (Obj.mapFields fun x=>x.setIfInBounds 0 (Value.ref hp.objs.size)) hg1 rfl
      have I1:Inv X pins σ H ⟨hp.push { cls:=Value.type "tuple",data:=Data.seq #[u2] },g,d,tk',os⟩:=I.kept (s:=⟨hp,g,d,tk,os⟩) (t':=tk') fun b o z=>Heap.get?_push_of_some _ z
      have I2:=I1.write (x:=e) (e:=e) (o:=excO e C dd) (h':=(hp.push { cls:=Value.type "tuple",data:=Data.seq #[u2] }).update e (Obj.mapFields fun x=>x.setIfInBounds 0 (Value.ref hp.objs.size))) (t':=tk') (by rw [he];exact True.intro) (.inl rfl) (fun b q hb z=>(Heap.get?_update_ne _ _ _ _ hb).trans z) ⟨_,hg2⟩ (excO_ok (a0:=.ref hp.objs.size) hg2)
      have eH:upd H e (excO e C dd)=H:=by
       funext b
       unfold upd
       split
       ·rename_i q;rw [q,he]
       ·rfl
      rw [eH] at I2
      exact ⟨.non,H,I2,rfl,q⟩
     cases a0 <;> first|exact wpAny_pure (wpAny_pure (fin _))|exact wpAny_letGo (wpAny_pure (fin _))
end
section
variable {X:Cx} {CX:CXT} {k:Nat} {f C CS:Addr} {fd:FuncData} {ps:List Str} {sp:Sp} {dvs:List V} {ds:List Value} {E:XK} {m tn cn:Str} {T id:String} {p pos apos:Pos} {e:Expr} {es:List Expr} {t:TA} {r:List V->Hp->VK->Prop} {mc:Value}
def tCallR (r:List V->Hp->VK->Prop) (t:TA):TE:=fun σ H Q=>t σ H fun vs H1=>r vs H1 Q
theorem pe_typeMeth {pl:Sem Bool} (hg:Gl X tn) (hm:X.mg tn=none) (hv:bootBuiltins tn=some (.type T)) (ht:typeOf (.type T)=pure (.type "type")) (hs:Manifest.isStub T=false) (fc:findCls X.K (.type T) (.type "type") m=some (.val (.builtin id))) (hc:ag5 X (.builtin id) r) (ha:PA X (e::es) t) (hh:handedIn (.builtin id)=true:=by rfl)
 (hn:tn ≠ "__name__":=by decide) (hdb:(tn == ("__debug__" : Str))=false:=by decide) (hst:starEach (e::es) X.env=(false,eval e X.env)::starEach es X.env:=by rfl) (hpl:(backTo pos (starEach es X.env)).any (·.1)=false:=by rfl)
 (hte:eval (.Call (.Attribute (.Name tn p) m apos) (e::es) [] pos) X.env=(do
  let ov ← eval (.Name tn p) X.env
  standAt apos.atName
  let (f,first) ← holding [ov] (getMethod ov m pl)
  callWith pos f first (backTo pos (starEach (e::es) X.env)) (backToKw pos (keywordEach [] X.env))):=by rfl) :
 PE X (.Call (.Attribute (.Name tn p) m apos) (e::es) [] pos) (tCallR r t):=by
 intro pins s σ H Q I h
 obtain ⟨mm,F⟩:=I.fr
 refine methodCall_KW (pl:=pl) (ak4 I hg hm hv (method_type F I.ok.mod.kin ht hs fc hh ?_) hn hdb) hte
 exact callWith_builtin1 (thn (ha pos pins _ σ H _ (I.tok _) h) fun us s1 ⟨vs,H1,I1,r1,q1⟩=>hc pins s1 σ H1 vs us Q I1 r1 q1) hst hpl
theorem aq1 {pl:Sem Bool} (hg:Gl X cn) (hm:X.mg cn=some (.ref CS)) (sg:specialIn X.K (.ref CS) "__getattribute__" = some (some (.builtin "type.__getattribute__"))) (hr':readsIn X.K CS mc=true) (fc:findCls X.K (.ref CS) mc m=some (.val (.ref f))) (hk:keepIn X.K (.ref f)=true)
 (F:FnOk X.prog X.w X.K X.mg X.base CX k f fd ps sp) (hr:Room k X.A) (hb:Binds X.K fd ps ds) (hd:Vals dvs ds) (hx:ae4 CX X E) (ha:PA X (e::es) t) (hdb:(cn == ("__debug__" : Str))=false:=by decide)
 (hst:starEach (e::es) X.env=(false,eval e X.env)::starEach es X.env:=by rfl) (hpl:(backTo pos (starEach es X.env)).any (·.1)=false:=by rfl)
 (hte:eval (.Call (.Attribute (.Name cn p) m apos) (e::es) [] pos) X.env=(do
  let ov ← eval (.Name cn p) X.env
  standAt apos.atName
  let (f,first) ← holding [ov] (getMethod ov m pl)
  callWith pos f first (backTo pos (starEach (e::es) X.env)) (backToKw pos (keywordEach [] X.env))):=by rfl) :
 PE X (.Call (.Attribute (.Name cn p) m apos) (e::es) [] pos) (tCall sp dvs E t):=by
 intro pins s σ H Q I h
 refine methodCall_KW (pl:=pl) (ak2 I hg hm (method_cls I.kIn sg (cls_value I.kIn hr' fc rfl ?_)) hdb) hte
 refine callWith_K (first:=[]) (h₀:=X.base) I.ok.mod.kin hk (thn (ha pos pins _ σ H _ (I.tok _) h) fun us s1 ⟨vs,H1,I1,r,q⟩=>⟨I1.kIn,?_⟩) hst hpl
 exact run_fn F hr hb hd hx I1 r q
end
end L2
namespace L2
open PySem PySem.Spec PyProof.Rows
section
variable {X:Cx} {pins:List (Addr×Obj)} {σ:List (Option V)} {H H':Hp} {s:Shared} {h':Heap}
theorem Inv.stepN {g':Array GenState} {t':Nat} {d':Drawn} {ch:List Addr} (I:Inv X pins σ H s)
 (hch:∀ b∈ch,X.s₀.heap.get? b=none/\b≠X.env.locals/\(∀ x c,X.env.cells.lookup x=some c->c≠b)/\∀ p∈X.pn++pins,p.1≠b)
 (keep:∀ b o,b≠X.env.locals->b∉X.fs->b∉ch->s.heap.get? b=some o->H b=none->h'.get? b=some o)
 (slot:∀ b o,b≠X.env.locals->b∈X.fs->b∉ch->s.heap.get? b=some o->H b=none->∃ sl,h'.get? b=some { o with slots:=sl }) (free:∀ b o,b∉ch->s.heap.get? b=some o->H b=none->H' b=none)
 (there:∀ b o,b∉ch->s.heap.get? b=some o->∃ o',h'.get? b=some o')
 (tups:∀ b xs,H b=some (.tup xs)->H' b=some (.tup xs)) (frzs:∀ b o u,H b=some (.frz o u)->H' b=some (.frz o u)) (tbls:∀ b ps,H b=some (.tbl ps)->∃ more,H' b=some (.tbl (ps++more)))
 (ns:∀ m,s.heap.Ns X.env.locals m->h'.Ns X.env.locals m) (hok:HOk X.prog X.w H' h') (hg:AllBare g') :
 Inv X pins σ H' { s with heap:=h',gens:=g',drawn:=d',toks:=t' }:=by
 have neL:∀ b o,X.s₀.heap.get? b=some o->b≠X.env.locals:=fun b o e=>Nat.ne_of_lt (Nat.lt_of_lt_of_le (Heap.lt_size e) I.ok.above)
 have neC:∀ b o,X.s₀.heap.get? b=some o->b∉X.ex->b∉ch:=fun b o e hx hb=>by
  rw [(hch b hb).1] at e;cases e
 have cellK:∀ x c,X.env.cells.lookup x=some c->∀ v,s.heap.IsCell c v->h'.IsCell c v:=fun x c e v ⟨o,ho,hd⟩=>by
  have nch:c∉ch:=fun z=>(hch c z).2.2.1 x c e rfl
  by_cases hc:c∈X.fs
  ·obtain ⟨sl,q⟩:=slot c o (I.cne x c e) hc nch ho (I.freeC x c e)
   exact ⟨_,q,hd⟩
  ·exact ⟨o,keep c o (I.cne x c e) hc nch ho (I.freeC x c e),hd⟩
 refine ⟨I.ok,I.os,hg,⟨fun b o e n hb hx=>?_,fun b o e n hb hx=>?_,fun b o e n hx=>?_,fun b o e hx=>?_,fun b xs e=>tups b xs (I.base.tups b xs e),fun b o xs e=>frzs b o xs (I.base.frzs b o xs e),fun b ps e=>?_⟩,?_,fun x c e=>?_,?_,fun x c e=>?_,fun p hp=>?_,hok,I.len⟩
 ·exact keep b o (neL b o e) hb (neC b o e hx) (I.base.keep b o e n hb hx) (I.base.free b o e n hx)
 ·obtain ⟨sl,e1⟩:=I.base.slot b o e n hb hx
  obtain ⟨sl',e2⟩:=slot b _ (neL b o e) hb (neC b o e hx) e1 (I.base.free b o e n hx)
  exact ⟨sl',e2⟩
 ·obtain ⟨o',e1⟩:=I.base.there b o e hx
  exact free b o' (neC b o e hx) e1 (I.base.free b o e n hx)
 ·obtain ⟨o',e1⟩:=I.base.there b o e hx
  exact there b o' (neC b o e hx) e1
 ·obtain ⟨m1,e1⟩:=I.base.tbls b ps e
  obtain ⟨m2,e2⟩:=tbls b _ e1
  exact ⟨m1++m2,by rw [e2,Array.append_assoc]⟩
 ·obtain ⟨m,hn,hl⟩:=I.loc
  refine ⟨m,ns m hn,fun i x v e1 e2 e3=>?_⟩
  obtain ⟨u,r,l⟩:=hl i x v e1 e2 e3
  refine ⟨u,r,?_⟩
  rcases l with l|⟨k,c,e,z⟩
  ·exact .inl l
  ·exact .inr ⟨k,c,e,cellK x c e _ z⟩
 ·obtain ⟨v,z⟩:=I.cell x c e
  exact ⟨v,cellK x c e v z⟩
 ·obtain ⟨m,⟨o,_,_,ho,_⟩,_⟩:=I.loc
  exact free _ o (fun z=>(hch _ z).2.1 rfl) ho I.free
 ·obtain ⟨v,o,ho,hd⟩:=I.cell x c e
  exact free c o (fun z=>(hch c z).2.2.1 x c e rfl) ho (I.freeC x c e)
 ·obtain ⟨e,n,ne,nf,d⟩:=I.pin p hp
  have nch:p.1∉ch:=fun z=>(hch p.1 z).2.2.2 p hp rfl
  exact ⟨keep p.1 p.2 ne nf nch e n,free p.1 p.2 nch e n,ne,nf,d⟩
end
end L2
namespace L2
open PySem PySem.Spec PyProof.Rows PySem.SeqAt PySem.W Builtin.ObjectAttr
section
variable {X:Cx} {pins:List (Addr×Obj)} {σ σ0:St} {H H0:Hp} {s s0:Shared} {e:Addr} {cls:Value} {dd:Option Addr}
theorem catchX {A:Around} {Q:Unit->Shared->Prop} {E:Value->Shared->Prop} (I0:Inv X pins σ0 H0 s0) (I:Inv X pins σ H s) (hst:X.stack=X.env::X.outer) (hfm:X.env.frame=some X.env.locals) (hfr:A.frames=some X.stack) (hex:X.ex=[]) (hth:∀ b o,s0.heap.get? b=some o->∃ o',s.heap.get? b=some o') (x:ah4 s.heap H s0.heap e cls dd)
 (h:∀ h',ah4 h' H s0.heap e cls dd->Inv X pins σ H { s with heap:=h' }->Q () { s with heap:=h' }):wpAny (model X.prog X.w) A (noteFrame (.ref e) X.env) (fun _ s2=>wpAny (model X.prog X.w) A (setFlight (.ref e) none) Q E s2) E s:=by
 have hl:=I.stack
 rw [hst] at hfr hl
 obtain ⟨oe,vs,h1,h2,h3,h4,h5,h6,h7⟩:=x
 have free:∀ b∈(X.env::X.outer).filterMap (·.frame),H b=none:=fun b hb=>I.stkFree b (by rw [hst];exact hb)
 have old:∀ T,s0.heap.get? T=none->X.s₀.heap.get? T=none/\T≠X.env.locals/\(∀ x c,X.env.cells.lookup x=some c->c≠T)/\∀ p∈X.pn++pins,p.1≠T:=fun T hT=>by
  refine ⟨?_,?_,fun x c z q=>?_,fun p hp q=>?_⟩
  ·cases z:X.s₀.heap.get? T with
   |none=>rfl
   | some o=>
     obtain ⟨o',q⟩:=I0.base.there T o z (by rw [hex];simp)
     rw [hT] at q;cases q
  ·rintro rfl
   obtain ⟨_,⟨o,_,_,ho,_⟩,_⟩:=I0.loc
   rw [hT] at ho;cases ho
  ·obtain ⟨v,o,ho,_⟩:=I0.cell x c z
   rw [q,hT] at ho;cases ho
  ·have:=(I0.pin p hp).1
   rw [q,hT] at this;cases this
 have fin:∀ (ch:List Addr) (h':Heap) (T:Addr) (oe' oT:Obj) (vs' ts:Array Value),(∀ b∈ch,s0.heap.get? b=none/\H b=none)->s0.heap.get? T=none->T≠e->H T=none->h'.get? e=some oe'->oe'.cls=oe.cls->oe'.dict=oe.dict->oe'.data=.fields vs'->vs'[1]?=some (.ref T)->h'.get? T=some oT->oT.data=.fields ts->ts[3]?=some .none->
  (∀ b o,b∉ch->b∉(X.env::X.outer).filterMap (·.frame)->s.heap.get? b=some o->h'.get? b=some o)->(∀ b o,b∉ch->s.heap.get? b=some o->∃ sl,h'.get? b=some { o with slots:=sl })->Q () { s with heap:=h' }:=by
  intro ch h' T oe' oT vs' ts hch hT hTe hTn g1 g2 g3 g4 g5 g6 g7 g8 kp ks
  refine h h' ⟨oe',vs',g1,g2.trans h2,g3.trans h3,g4,h5,h6,.inr ⟨T,oT,ts,g5,hTe,g6,g7,g8,hT,hTn⟩⟩ ?_
  have ninF:∀ b,b≠X.env.locals->b∉X.fs->b∉(X.env::X.outer).filterMap (·.frame):=fun b hb hn hm=>by
   rw [List.filterMap_cons,hfm] at hm
   rcases List.mem_cons.mp hm with q|hm
   ·exact hb q
   ·exact hn hm
  refine I.stepN (ch:=ch) (g':=s.gens) (d':=s.drawn) (t':=s.toks) (fun b hb=>old b (hch b hb).1) (fun b o hL hf hc z _=>kp b o hc (ninF b hL hf) z) (fun b o _ _ hc z _=>ks b o hc z) (fun b o _ _ n=>n) (fun b o hc z=>let ⟨sl,q⟩:=ks b o hc z;⟨_,q⟩) (fun _ _ z=>z) (fun _ _ _ z=>z) (fun b ps z=>⟨#[],by rw [z];simp⟩) (fun m hm=>?_) (fun b u hb=>?_) I.bare
  ·obtain ⟨o,es,ep,ho,hd,r⟩:=hm
   have hnl:X.env.locals∉ch:=fun z=>(old _ (hch _ z).1).2.1 rfl
   obtain ⟨sl,q⟩:=ks _ o hnl ho
   exact ⟨_,es,ep,q,hd,r⟩
  ·refine (I.hok b u hb).stay (fun c v hc q=>kp c v (fun z=>?_) (fun hm=>?_) q) (fun _ q=>q) fun _ _ q=>q
   ·have:=(hch c z).2
    rcases hc with rfl|w
    ·rw [this] at hb;cases hb
    ·rw [this] at w;cases w
   ·have:=free c hm
    rcases hc with rfl|w
    ·rw [this] at hb;cases hb
    ·rw [this] at w;cases w
 have newT:∀ T,s.heap.objs.size≤T->s0.heap.get? T=none/\T≠e/\H T=none:=fun T hT=>by
  refine ⟨?_,fun q=>?_,I.hok.fresh hT⟩
  ·cases z:s0.heap.get? T with
   |none=>rfl
   | some o=>
     obtain ⟨o',q⟩:=hth T o z
     exact absurd (Nat.lt_of_lt_of_le (Heap.lt_size q) hT) (Nat.lt_irrefl _)
  ·subst q;exact absurd (Nat.lt_of_lt_of_le (Heap.lt_size h1) hT) (Nat.lt_irrefl _)
 unfold noteFrame
 simp only [hfm]
 rcases h7 with h7|⟨T,oT,ts,t1,t2,t3,t4,t5,t6,t7⟩
 ·refine wpAny_bind (wpAny_field h1 h4 h7 ?_)
  rw [if_neg (by decide)]
  refine entryX hfr hl hfm h1 h4 (Array.getElem?_eq_some_iff.mp h7).1 fun h' T oe' oT vs' ts hT g1 g2 g3 g4 g5 g6 g7 g8 kp ks=>?_
  obtain ⟨n1,n2,n3⟩:=newT T hT
  exact fin [e] h' T oe' oT vs' ts (fun b hb=>by cases List.mem_singleton.mp hb;exact ⟨h5,h6⟩) n1 n2 n3 g1 g2 g3 g4 g5 g6 g7 g8 (fun b o hb hm z=>kp b o (fun q=>hb (by simp [q])) hm z) fun b o hb z=>ks b o (fun q=>hb (by simp [q])) z
 ·refine wpAny_bind (wpAny_field h1 h4 t1 ?_)
  rw [if_pos (show (Value.ref T != Value.none)=true by simp)]
  refine wpAny_bind (wpAny_field t3 t4 t5 ?_)
  rw [if_neg (show ¬ ((Value.none == rawInt X.env.locals)=true) by simp [rawInt])]
  refine wpAny_bind (wpAny_setField t3 t4 (Array.getElem?_eq_some_iff.mp t5).1 ?_)
  have other:∀ b,b≠T->(s.heap.update T (Obj.mapFields (·.setIfInBounds 3 Value.none))).get? b=s.heap.get? b:=fun b hb=>Heap.get?_update_other _ _ (Ne.symm hb)
  have noR:∀ b o,s.heap.get? b=some o->(∀ vs,o.data≠.fields vs)->b≠T:=fun b o hb hnf q=>by
   subst q
   rw [t3] at hb
   cases hb
   exact hnf ts t4
  refine entryX (s:={ s with heap:=s.heap.update T (Obj.mapFields (·.setIfInBounds 3 Value.none)) }) hfr (hl.of_keeps fun b o hb hnf=>⟨o,(other b (noR b o hb hnf)).trans hb,rfl⟩) hfm ((other e (Ne.symm t2)).trans h1) h4 (Array.getElem?_eq_some_iff.mp t1).1 fun h' T' oe' oT' vs' ts' hT g1 g2 g3 g4 g5 g6 g7 g8 kp ks=>?_
  have hT':s.heap.objs.size≤T':=by
   have z:(s.heap.update T (Obj.mapFields (·.setIfInBounds 3 Value.none))).objs.size=s.heap.objs.size:=Heap.size_update _ _ _
   exact Nat.le_trans (Nat.le_of_eq z.symm) hT
  obtain ⟨n1,n2,n3⟩:=newT T' hT'
  refine fin [e,T] h' T' oe' oT' vs' ts' (fun b hb=>?_) n1 n2 n3 g1 g2 g3 g4 g5 g6 g7 g8 (fun b o hb hm z=>kp b o (fun q=>hb (by simp [q])) hm ((other b fun q=>hb (by simp [q])).trans z)) fun b o hb z=>ks b o (fun q=>hb (by simp [q])) ((other b fun q=>hb (by simp [q])).trans z)
  rcases List.mem_cons.mp hb with rfl|hb
  ·exact ⟨h5,h6⟩
  ·cases List.mem_singleton.mp hb;exact ⟨t6,t7⟩
end
theorem upd_id {h:Heap} {a:Addr} {o:Obj} {f:Obj->Obj} (e:h.get? a=some o) (hf:f o=o):h.update a f=h:=by
 obtain ⟨objs,l⟩:=h
 have e':objs[a]?=some o:=by
  unfold Heap.get? at e
  dsimp only at e
  split at e
  ·cases e
  ·exact e
 show (⟨objs.modify a f,l⟩:Heap)=⟨objs,l⟩
 congr 1
 obtain ⟨hlt,e2⟩:=Array.getElem?_eq_some_iff.mp e'
 refine Array.ext (by simp) fun i h1 h2=>?_
 rw [Array.getElem_modify]
 split
 ·rename_i q
  subst q
  rw [e2,hf]
 ·rfl
section
variable {X:Cx} {pins:List (Addr×Obj)} {σ σ0:St} {H H0:Hp} {s s0:Shared} {e:Addr} {cls:Value} {dd:Option Addr}
theorem Inv.drop (I:Inv X pins σ H s) (i:Nat):Inv X pins (σ.set i none) H s:=by
 obtain ⟨ok,os,bare,base,⟨m,hn,hl⟩,cell,free,freeC,pin,hok,len⟩:=I
 refine ⟨ok,os,bare,base,⟨m,hn,fun j x v e1 e2 e3=>?_⟩,cell,free,freeC,pin,hok,by simpa using len⟩
 by_cases hj:j=i
 ·subst hj
  rw [List.getElem?_set] at e2
  split at e2 <;> simp_all
 ·rw [List.getElem?_set_ne (Ne.symm hj)] at e2
  exact hl j x v e1 e2 e3
theorem at7 {M:Model} {A:Around} {E:Value->Shared->Prop} {i:Nat} {x:Str} {pos:Pos} {Q:Unit->Shared->Prop} (I:Inv X pins σ H s) (hN:X.N.Nodup) (hi:X.N[i]?=some x) (hx:X.env.scope.names.lookup x=some .local)
 (h:∀ s',Inv X pins (σ.set i none) H s'->Q () s'):wpAny M A (do bindName X.env x .none;unbindBehindTheSuite X.env x pos) Q E s:=by
 have hcls:(X.env.scope.kind == .class || (X.env.scope.kind == .module && X.env.locals != X.env.globals))=false:=by rw [I.ok.kind];rfl
 have hiσ:i<σ.length:=by rw [I.len];exact (List.getElem?_eq_some_iff.mp hi).1
 refine wpAny_bind (wpAny_bindName (aj4 I hN hi (.inl hx) (v:=.non) (u:=.none) rfl (fun s1 I1=>?_) (.inr hx)))
 obtain ⟨m,hn,hl⟩:=id I1.loc
 obtain ⟨u,_,lk⟩:=hl i x .non hi (by rw [List.getElem?_set_self hiσ]) (.inl hx)
 have hv:m x=some u:=by
  rcases lk with ⟨_,z⟩|⟨k,_⟩
  ·exact z
  ·unfold Env.kindOf at k
   rw [hx] at k
   rcases k with k|k <;> cases k
 unfold unbindBehindTheSuite
 refine wpAny_onRaise (wpAny_unbindName_local hx hn hv hcls fun h' u' hn' hs=>?_)
 have I2:=I1.drop i
 rw [List.set_set] at I2
 obtain ⟨ok,os,bare,base,⟨m2,hn2,hl2⟩,cell,free,freeC,pin,hok,len⟩:=id I2
 obtain ⟨oL,_,_,hoL,_⟩:=id hn
 have neL:∀ b o,X.s₀.heap.get? b=some o->b≠X.env.locals:=fun b o e=>Nat.ne_of_lt (Nat.lt_of_lt_of_le (Heap.lt_size e) ok.above)
 refine h _ ⟨ok,os,bare,⟨fun b o e n hb hx=>?_,fun b o e n hb hx=>?_,base.free,fun b o e hx=>?_,base.tups,base.frzs,base.tbls⟩,⟨_,hn',fun j y v' e1 e2 e3=>?_⟩,fun y c e=>?_,free,freeC,fun p hp=>?_,fun b ob e=>?_,len⟩
 ·exact (hs.2 b (neL b o e)).trans (base.keep b o e n hb hx)
 ·obtain ⟨sl,e1⟩:=base.slot b o e n hb hx
  exact ⟨sl,(hs.2 b (neL b o e)).trans e1⟩
 ·obtain ⟨o',e1⟩:=base.there b o e hx
  exact ⟨o',(hs.2 b (neL b o e)).trans e1⟩
 ·have hj:j≠i:=fun q=>by
   subst q
   rw [List.getElem?_set_self hiσ] at e2;cases e2
  rw [List.getElem?_set_ne (Ne.symm hj)] at e2
  obtain ⟨u'',r',q⟩:=hl j y v' e1 (by rw [List.getElem?_set_ne (Ne.symm hj)];exact e2) e3
  refine ⟨u'',r',?_⟩
  rcases q with ⟨k,e⟩|⟨k,c,e,z⟩
  ·refine .inl ⟨k,?_⟩
   have:y≠x:=fun e=>hj (am3 hN e1 (e ▸ hi))
   simp [this,e]
  ·exact .inr ⟨k,c,e,z.sameBut hs (I1.cne y c e)⟩
 ·obtain ⟨w',z⟩:=I1.cell y c e
  exact ⟨w',z.sameBut hs (I1.cne y c e)⟩
 ·obtain ⟨e,n,ne,nf,d⟩:=pin p hp
  exact ⟨(hs.2 p.1 ne).trans e,n,ne,nf,d⟩
 ·refine (hok b ob e).stay (fun c w' hc q=>(hs.2 c ?_).trans q) (fun _ q=>q) fun _ _ q=>q
  rintro rfl
  rcases hc with rfl|hc
  ·rw [free] at e;cases e
  ·rw [free] at hc;cases hc
theorem setFlightX {M:Model} {A:Around} {Q:Unit->Shared->Prop} {E:Value->Shared->Prop} (x:ah4 s.heap H s0.heap e cls dd) (h:Q () s):wpAny M A (setFlight (.ref e) none) Q E s:=by
 obtain ⟨oe,vs,h1,h2,h3,h4,h5,h6,h7⟩:=x
 unfold setFlight
 rcases h7 with h7|⟨T,oT,ts,t1,t2,t3,t4,t5,t6,t7⟩
 ·refine wpAny_bind (wpAny_field h1 h4 h7 ?_)
  rw [if_neg (by decide)]
  exact wpAny_pure h
 ·refine wpAny_bind (wpAny_field h1 h4 t1 ?_)
  rw [if_pos (show (Value.ref T != Value.none)=true by simp)]
  refine wpAny_setField t3 t4 (Array.getElem?_eq_some_iff.mp t5).1 ?_
  have:s.heap.update T (Obj.mapFields (·.setIfInBounds 3 ((none:Option Addr).elim Value.none fun f=>rawInt f)))=s.heap:=by
   refine upd_id t3 ?_
   obtain ⟨c,d,da,sl⟩:=oT
   cases (show da=.fields ts from t4)
   show (⟨c,d,.fields (ts.setIfInBounds 3 .none),sl⟩:Obj)=⟨c,d,.fields ts,sl⟩
   have:ts.setIfInBounds 3 .none=ts:=by
    obtain ⟨hlt,e2⟩:=Array.getElem?_eq_some_iff.mp t5
    refine Array.ext (by simp) fun i h1 h2=>?_
    rw [Array.getElem_setIfInBounds]
    split
    ·rename_i q
     subst q
     exact e2.symm
    ·rfl
   rw [this]
  rw [this]
  exact h
end
def hCx (X:Cx) (ea:Addr) (ps:List (Addr×Obj)):Cx:={ X with A:=X.A.mark (some (.ref ea)),calm:=false,pn:=X.pn++ps,xe:=fun _ _=>False }
section
variable {X:Cx} {pins:List (Addr×Obj)} {σ σ0:St} {H H0:Hp} {s s0:Shared} {e:Addr} {cls:Value} {dd:Option Addr}
theorem Cx.Ok.into (ok:X.Ok) {ea:Addr} {ps:List (Addr×Obj)}:(hCx X ea ps).Ok:=
 ⟨ok.mod,ok.kind,ok.glob,ok.blt,ok.above,ok.inj,ok.has,ok.cab,(fun h=>nomatch h),ok.frames,ok.stk,ok.exf,ok.bs,ok.bsz,ok.noex,ok.exfs,ok.funs,ok.frf⟩
theorem Inv.into (I:Inv X pins σ H s) {ea:Addr} {ps:List (Addr×Obj)} (hp:∀ p∈ps,s.heap.get? p.1=some p.2/\H p.1=none/\p.1≠X.env.locals/\p.1∉X.fs/\∀ v,p.2.data≠.cell v):Inv (hCx X ea ps) pins σ H s:=by
 refine ⟨I.ok.into,I.os,I.bare,I.base,I.loc,I.cell,I.free,I.freeC,fun p h=>?_,I.hok,I.len⟩
 rcases List.mem_append.mp h with h|h
 ·rcases List.mem_append.mp h with h|h
  ·exact I.pin p (List.mem_append_left _ h)
  ·exact hp p h
 ·exact I.pin p (List.mem_append_right _ h)
theorem Inv.outof {ea:Addr} {ps:List (Addr×Obj)} (I:Inv (hCx X ea ps) pins σ H s) (ok:X.Ok):Inv X pins σ H s:=by
 refine ⟨ok,I.os,I.bare,I.base,I.loc,I.cell,I.free,I.freeC,fun p h=>?_,I.hok,I.len⟩
 rcases List.mem_append.mp h with h|h
 ·exact I.pin p (List.mem_append_left _ (List.mem_append_left _ h))
 ·exact I.pin p (List.mem_append_right _ h)
theorem Inv.handle (I0:Inv X pins σ0 H0 s0) (I:Inv X pins σ H s) (x:ah4 s.heap H s0.heap e cls dd):∃ ps oe,(e,oe)∈ps/\oe.cls=cls/\oe.dict=dd/\(∃ vs,oe.data=.fields vs)/\Inv (hCx X e ps) pins σ H s/\∀ {σ1 H1 s1},Inv (hCx X e ps) pins σ1 H1 s1->ah4 s1.heap H1 s0.heap e cls dd:=by
 obtain ⟨oe,vs,h1,h2,h3,h4,h5,h6,h7⟩:=x
 have new:∀ T o vs,s0.heap.get? T=none->s.heap.get? T=some o->H T=none->o.data=.fields vs->s.heap.get? T=some o/\H T=none/\T≠X.env.locals/\T∉X.fs/\∀ v,o.data≠.cell v:=fun T o vs hT ho hn hd=>by
  refine ⟨ho,hn,?_,fun q=>?_,fun v q=>by rw [hd] at q;cases q⟩
  ·rintro rfl
   obtain ⟨_,⟨o,_,_,ho,_⟩,_⟩:=I0.loc
   rw [hT] at ho;cases ho
  ·obtain ⟨_,o,ho,_⟩:=I0.funs.mem q
   rw [hT] at ho;cases ho
 rcases h7 with h7|⟨T,oT,ts,t1,t2,t3,t4,t5,t6,t7⟩
 ·refine ⟨[(e,oe)],oe,List.mem_singleton.mpr rfl,h2,h3,⟨_,h4⟩,I.into fun p hp=>?_,fun {σ1 H1 s1} I1=>?_⟩
  ·cases List.mem_singleton.mp hp
   exact new e oe vs h5 h1 h6 h4
  ·have p:=I1.pin (e,oe) (List.mem_append_left _ (List.mem_append_right _ (List.mem_singleton.mpr rfl)))
   exact ⟨oe,vs,p.1,h2,h3,h4,h5,p.2.1,.inl h7⟩
 ·refine ⟨[(e,oe),(T,oT)],oe,List.mem_cons_self,h2,h3,⟨_,h4⟩,I.into fun p hp=>?_,fun {σ1 H1 s1} I1=>?_⟩
  ·rcases List.mem_cons.mp hp with rfl|hp
   ·exact new e oe vs h5 h1 h6 h4
   ·cases List.mem_singleton.mp hp
    exact new T oT ts t6 t3 t7 t4
  ·have p:=I1.pin (e,oe) (List.mem_append_left _ (List.mem_append_right _ List.mem_cons_self))
   have q:=I1.pin (T,oT) (List.mem_append_left _ (List.mem_append_right _ (List.mem_cons_of_mem _ (List.mem_singleton.mpr rfl))))
   exact ⟨oe,vs,p.1,h2,h3,h4,h5,p.2.1,.inr ⟨T,oT,ts,t1,t2,q.1,t4,t5,t6,q.2.1⟩⟩
theorem excMatchC {K:Frag} {P:Program} {w:World} {A:Around} {E:Value->Shared->Prop} {Q:Bool->Shared->Prop} {C Ce:Addr} {B newId:String} {b:Bool} {oe:Obj} (kin:K.In s.heap) (he:s.heap.get? e=some oe) (hcls:oe.cls=.ref Ce) (XC:XCls K C B newId) (hm:mroIn K Ce (.ref C)=some b) (h:Q b s) :
 wpAny (model P w) A (excMatches (.ref e) (.ref C)) Q E s:=by
 have Y:=aj5 (M:=model P w) kin XC.mks
 obtain ⟨⟨oc,od,cd,sl,hC,_,_,_⟩,_,_,_,_,isE,_,_,_,typ⟩:=Y
 have T1:Looks (model P w) s.heap (typeOf (.ref e)) (.ref Ce):=hcls ▸ (Looks.ld he).andThen .now
 have T2:Looks (model P w) s.heap (typeOf (.ref C)) (.type "type"):=looks_typeIn kin XC.ty
 have T4:Looks (model P w) s.heap (isSubtype (.ref Ce) (.ref C)) b:=looks_mroIn kin hm
 have f:=tc_notTuple
 obtain ⟨hp,g,d,tk,os⟩:=s
 unfold excMatches
 repeat (first|with_reducible refine wpAny_loadPart_at hC ?_|with_reducible refine isE.at ?_|with_reducible refine T4.at ?_|with_reducible refine typ.at ?_|with_reducible refine T1.at ?_|with_reducible refine T2.at ?_|wp_step)
 cases b <;> (wp_walk;exact h)
end
abbrev THs:=Ends->Addr->Option Addr->St->Hp->Prop
def PH (X:Cx) (hs:List ExceptHandler) (th:THs):Prop:=
 ∀ (pins:List (Addr×Obj)) (s0:Shared) (σ0:St) (H0:Hp) (s:Shared) (σ:St) (H:Hp) (D:Ends) (ea Ce:Addr) (dd:Option Addr),Inv X pins σ0 H0 s0->Inv X pins σ H s->ah4 s.heap H s0.heap ea (.ref Ce) dd->th D Ce dd σ H->wpAny (model X.prog X.w) X.A (handleBy (.ref ea) X.env hs) (SP X pins D) X.xe s
def asEnds (i:Nat) (D:Ends):Ends:=⟨fun σ H=>D.nx (σ.set i none) H,D.rt,fun σ H=>D.bk (σ.set i none) H,fun σ H=>D.ct (σ.set i none) H⟩
def tHand (K:Frag) (C:Addr) (B newId:String) (i:Nat) (tb:Addr->Addr->Option Addr->TS) (tr:THs):THs:=fun D Ce dd σ H=>XCls K C B newId/\∃ b,mroIn K Ce (.ref C)=some b/\if b then ∀ ea,tb ea Ce dd (asEnds i D) (σ.set i (some (.ref ea))) H else tr D Ce dd σ H
section
variable {X:Cx}
theorem ph_nil:PH X [] (fun _ _ _ _ _=>False):=fun _ _ _ _ _ _ _ _ _ _ _ _ _ _ h=>h.elim
theorem ph_cons {t:Expr} {n:Str} {b0:Stmt} {body:List Stmt} {pos:Pos} {rest:List ExceptHandler} {C:Addr} {B newId:String} {i:Nat} {tb:Addr->Addr->Option Addr->TS} {tr:THs} (hN:X.N.Nodup) (hi:X.N[i]?=some n) (hx:X.env.scope.names.lookup n=some .local)
 (ht:∀ ea ps,PE (hCx X ea ps) t (tC (.ref C))) (hb:∀ ea oe ps Ce dd,(ea,oe)∈ps->oe.cls=.ref Ce->oe.dict=dd->(∃ vs,oe.data=.fields vs)->PSs (hCx X ea ps) (b0::body) (tb ea Ce dd)) (hr:PH X rest tr) :
 PH X (.ExceptHandler (some t) (some n) (b0::body) pos::rest) (tHand X.K C B newId i tb tr):=by
 intro pins s0 σ0 H0 s σ H D ea Ce dd I0 I x h
 obtain ⟨XC,b,hm,hk⟩:=h
 obtain ⟨ps,oe,hmem,hc,hd,hvs,IH,back⟩:=I0.handle I x
 refine wpAny_handleBy_cons (codeAny_handlers_test (wpAny_mono (ht ea ps pins s σ H (fun v H1=>v=.ref C/\H1=H) IH ⟨rfl,rfl⟩) (fun c s1 z=>?_) fun _ _ z=>z.elim)) (by intro q;cases q)
 obtain ⟨v,H1,I1,r,rfl,rfl⟩:=z
 cases (show c=Value.ref C from r)
 have p:=I1.pin (ea,oe) (List.mem_append_left _ (List.mem_append_right _ hmem))
 refine excMatchC I1.kIn p.1 hc XC hm ?_
 cases b with
 |false=>exact hr pins s0 σ0 H0 s1 σ H1 D ea Ce dd I0 (I1.outof I.ok) (back I1) hk
 | true=>
   refine codeAny_handlers_suite_as (setFlightX (back I1) (aj4 (X:=hCx X ea ps) I1 hN hi (.inl hx) (v:=.ref ea) rfl (fun s2 I2=>wpAny_mono (hb ea oe ps Ce dd hmem hc hd hvs pins s2 _ _ (asEnds i D) I2 (hk ea)) (fun f s3 z=>?_) fun _ _ z=>z.elim) (.inr hx)))
   show wpAny _ X.A _ _ X.xe s3
   cases f with
   | next=>
     obtain ⟨σ',H',I3,q⟩:=z
     exact at7 (I3.outof I.ok) hN hi hx fun s' I'=>⟨_,_,I',q⟩
   | brk=>
     obtain ⟨σ',H',I3,q⟩:=z
     exact at7 (I3.outof I.ok) hN hi hx fun s' I'=>⟨_,_,I',q⟩
   | cont=>
     obtain ⟨σ',H',I3,q⟩:=z
     exact at7 (I3.outof I.ok) hN hi hx fun s' I'=>⟨_,_,I',q⟩
   | ret u=>
     obtain ⟨v,σ',H',I3,r',q⟩:=z
     exact at7 (I3.outof I.ok) hN hi hx fun s' I'=>⟨v,_,_,I',r',q⟩
end
section
variable {X:Cx}
def tryE (X:Cx) (pins:List (Addr×Obj)) (s0:Shared) (W:Addr->Option Addr->St->Hp->Prop):Value->Shared->Prop:=fun v s=>∃ ea Ce dd σ H,v=.ref ea/\Inv X pins σ H s/\(∀ b o,s0.heap.get? b=some o->∃ o',s.heap.get? b=some o')/\ah4 s.heap H s0.heap ea (.ref Ce) dd/\W Ce dd σ H
abbrev TSX:=Ends->(Addr->Option Addr->St->Hp->Prop)->St->Hp->Prop
def PSX (X:Cx) (st:List Stmt) (t:TSX):Prop:=
 ∀ (pins:List (Addr×Obj)) (s:Shared) (σ:St) (H:Hp) (D:Ends) (W:Addr->Option Addr->St->Hp->Prop),Inv X pins σ H s->t D W σ H->wpAny (model X.prog X.w) X.A (execs st X.env) (SP X pins D) (tryE X pins s W) s
def tTry (t:TSX) (th:THs):TS:=fun D σ H=>t D (fun Ce dd σ' H'=>th D Ce dd σ' H') σ H
theorem ps_try {body:List Stmt} {h0:ExceptHandler} {hs:List ExceptHandler} {pos:Pos} {t:TSX} {th:THs} (hst:X.stack=X.env::X.outer) (hfm:X.env.frame=some X.env.locals) (hex:X.ex=[]) (hb:PSX X body t) (hh:PH X (h0::hs) th):PS X (.Try body (h0::hs) [] [] pos) (tTry t th):=by
 intro pins s σ H D I h
 refine wpAny_Try_except (wpAny_mono (hb pins s σ H D _ I h) (fun f s1 z=>?_) fun v s1 z=>?_)
 ·cases f with
  |next=>exact wpAny_execs_nil z
  |brk=>exact z
  |cont=>exact z
  |ret u=>exact z
 ·obtain ⟨ea,Ce,dd,σ1,H1,rfl,I1,th1,x,q⟩:=z
  refine catchX I I1 hst hfm I.ok.frames hex th1 x fun h' x' I2=>hh pins s σ H _ σ1 H1 D ea Ce dd I I2 x' q
end
structure Thunk (P:Program) (w:World) (K:Frag) (mg:Str->Option Value) (base:Heap) (g:Heap) (H₀:Hp) (fr:List Addr) (k:Nat) (f:Addr) (H:Hp) (Qv:VK) (Ev:XK):Prop where
 fn:∀ s:Shared,HOk P w H s.heap->∃ fo fd,s.heap.get? f=some fo/\fo.data=.func fd
 run:∀ (A:Around) (outer:List Env) (s:Shared),Room k A->Env0 P w K mg base A outer s H->(∀ b o,g.get? b=some o->H₀ b=none->b∉fr->s.heap.get? b=some o)->codeAny (model P w) A (.call (.ref f) ⟨[],[]⟩) (CR (CX1 P w) outer P w H s Qv Ev) s
section
variable {X:Cx}
theorem keeps_F {M:Model} {f:Addr} (h:Heap) (z:∃ fo fd,h.get? f=some fo/\fo.data=.func fd):∃ k,(k=Keeper.frame∨k=Keeper.machine∨k=Keeper.boundFrame)/\Looks M h (keeperOf (.ref f)) k:=by
 obtain ⟨fo,fd,e,d⟩:=z
 obtain ⟨c,di,da,sl⟩:=fo
 cases (show da=.func fd from d)
 exact ⟨.frame,.inl rfl,(Looks.ld (part:=none) e).andThen .now⟩
def tThunk (X:Cx) (k i j:Nat):TSX:=fun D W σ H=>∃ f Qv Ev,σ[j]?=some (some (.ref f))/\Thunk X.prog X.w X.K X.mg X.base X.s₀.heap X.H₀ X.fs k f H Qv Ev/\(∀ v H',Qv v H'->D.nx (σ.set i (some v)) H')/\∀ cls dd H',Ev cls dd H'->∃ Ce,cls=.ref Ce/\W Ce dd σ H'
theorem psx_thunk {k i j:Nat} {x a:Str} {px pa pc pos:Pos} (hN:X.N.Nodup) (hi:X.N[i]?=some x) (hx:Loc X.env.scope x) (hj:X.N[j]?=some a) (ha:Vis X.env.scope a) (hex:X.ex=[]) (hr:Room k X.A) (hs:swapsWith (.Call (.Name a pa) [] [] pc) (some (.Name x px)) pos.line X.env=pure false:=by rfl) (hf:X.fn x=true∨X.env.scope.names.lookup x=some .local:=by first|exact .inl rfl|exact .inr rfl|assumption)
 (hd:(a == ("__debug__" : Str))=false:=by decide) (hcd:(a == ("__classdict__" : Str))=false:=by decide) :
 PSX X [.Assign [.Name x px] (.Call (.Name a pa) [] [] pc) pos] (tThunk X k i j):=by
 intro pins s σ H D W I h
 obtain ⟨f,Qv,Ev,e,T,hv,he⟩:=h
 have kp:∀ b o,X.s₀.heap.get? b=some o->X.H₀ b=none->b∉X.fs->s.heap.get? b=some o:=fun b o z n hb=>I.base.keep b o z n hb (by rw [hex];simp)
 have fin:∀ t:Sem Flow,wpAny (model X.prog X.w) X.A t (fun f s1=>f=.next/\∃ v H',Inv X pins (σ.set i (some v)) H' s1/\Qv v H') (tryE X pins s W) s->wpAny (model X.prog X.w) X.A t (SP X pins D) (tryE X pins s W) s:=fun t ht=>thn ht fun f s1 ⟨q,v,H',I1,z⟩=>by subst q;exact ⟨_,_,I1,hv _ _ z⟩
 have one:wpAny (model X.prog X.w) X.A (exec (.Assign [.Name x px] (.Call (.Name a pa) [] [] pc) pos) X.env) (fun f s1=>f=.next/\∃ v H',Inv X pins (σ.set i (some v)) H' s1/\Qv v H') (tryE X pins s W) s:=by
  refine wpAny_Assign_Name (thn (Q:=EP X pins σ Qv) ?_ fun v s1 ⟨y,H1,I1,r1,q1⟩=>aj4 I1 hN hi hx r1 (fun s2 I2=>⟨rfl,y,H1,I2,q1⟩) hf) hs
  refine wpAny_Call_Name_kw ?_
  have named:∀ Q':Value->Shared->Prop,Q' (.ref f) s->wpAny (model X.prog X.w) X.A (eval (.Name a pa) X.env) Q' (tryE X pins s W) s:=fun Q' hq=>by
   obtain ⟨m,hn,hl⟩:=I.loc
   obtain ⟨u,r,l⟩:=hl j a (.ref f) hj e ha
   cases (show u=Value.ref f from r)
   rcases l with ⟨hk,hm⟩|⟨hk,c,hc,hcell⟩
   ·exact wpAny_Name (wpAny_loadName_local I.ok.kind hk hn hm hq) hd
   ·rcases hk with hk|hk
    ·exact wpAny_Name (wpAny_loadName_cell I.ok.kind hk hc hcell hq) hd
    ·exact wpAny_Name (wpAny_loadName_free I.ok.kind hk hc hcell hq hcd) hd
  refine named _ ?_
  obtain ⟨fo,fd,g1,g2⟩:=T.fn s I.hok
  refine callWith_of (P:=fun h=>∃ fo fd,h.get? f=some fo/\fo.data=.func fd) rfl keeps_F (evalArgs_nil3 ⟨⟨fo,fd,g1,g2⟩,?_⟩)
  refine wpAny_call (codeAny_mono (T.run X.A X.stack s hr I.env0 kp) fun r s' hq=>?_)
  cases r with
  | error ev=>
    obtain ⟨ea,cls,dd,H',rfl,os,bare,un,hok,xo,q⟩:=hq
    obtain ⟨Ce,rfl,z⟩:=he _ _ _ q
    refine ⟨ea,Ce,dd,σ,H',rfl,I.call' os un hok bare (fun b z=>absurd z (by simp)),fun b o z=>un.there b o z (by simp),xo,z⟩
  | ok fl=>
    cases fl with
    |ret u=>exact I.after hq
    |next=>exact False.elim hq
    |brk=>exact False.elim hq
    |cont=>exact False.elim hq
 refine wpAny_execs_cons (thn one fun fl s1 z=>?_)
 obtain ⟨rfl,v,H',I1,q⟩:=z
 exact wpAny_execs_nil ⟨_,_,I1,hv _ _ q⟩
end
structure XGet (K:Frag) (C:Addr) (f:Str):Prop where
 ga:findIn K (.ref C) "__getattribute__" = some (some (.builtin "BaseException.__getattribute__"))
 gh:findIn K (.ref C) "__getattr__" = some none
 hd:hasDictIn K C=true
 na:findIn K (.ref C) f=some none
 be:mroIn K C (.type "BaseException")=some true
section
variable {prog:Program} {w:World} {A:Around} {E:Value->Shared->Prop} {s:Shared} {K:Frag} {x C:Addr} {ox:Obj} {od:Option Obj} {name:Str} {expr:Bool} {Q:Value->Shared->Prop}
theorem getX {v:Value} (X:K.In s.heap) (I:InstAt s.heap x ox C od) (G:XGet K C name) (hf:findObj K C od name=some (.value v)) (hh:handedIn v=true) (h:Q v { s with toks:=s.toks+1 }):wpAny (model prog w) A (getAttr (.ref x) name expr) Q E s:=by
 obtain ⟨hp,g,d,t,os⟩:=s
 have L0:=I.type (M:=model prog w)
 have L1:=looks_findIn (M:=model prog w) X G.ga
 have L2:=looks_findIn (M:=model prog w) X G.gh
 have L3:=looks_find (M:=model prog w) X I hf
 have LB:Looks (model prog w) hp (isInstance (.ref x) (.type "BaseException")) true:=L0.andThen (looks_mroIn X G.be)
 have f3:=F.excAttr_ValueError.ga.bind (.ref x)
 have hx0:(expr && onTheHeap (Value.builtin "BaseException.__getattribute__"))=false:=by cases expr <;> rfl
 have hx2:(Value.builtin "BaseException.__getattribute__" == Value.builtin "object.__getattribute__")=false:=by decide +kernel
 have hx1:(onTheHeap (Value.ref C) && Value.builtin "BaseException.__getattribute__" == Value.builtin "object.__getattribute__")=false:=by rw [hx2];rfl
 unfold getAttr getAttrBy
 refine wpAny_bind (wpAny_mkText (wpAny_holding (wpAny_bind (L0.at (wpAny_bind (L1.at ?_))))))
 dsimp only
 rw [if_neg (by rw [hx1];decide)]
 unfold getAttrByItsOwn hookBefore
 rw [if_pos (show onTheHeap (Value.ref C)=true from rfl)]
 refine wpAny_bind (L2.at ?_)
 have key:∀ R:Result->Shared->Prop,R (.ok (.ret v)) ⟨hp,g,d,t+1,os⟩->codeAny (model prog w) A (.call (.builtin "BaseException.__getattribute__") ⟨[.ref x,.str name t],[]⟩) R ⟨hp,g,d,t+1,os⟩:=fun R hR=>by
  refine codeAny_call_builtin F.excAttr_ValueError.ga.plain F.entry_bexc_ga (check_slot (i:="BaseException.__getattribute__") (owner:="BaseException") (n:="__getattribute__") (by decide +kernel) (by decide +kernel) LB (F.args_bexc_ga _ _) ?_)
  refine wpAny_bind (wpAny_pure (wpAny_bind (wpAny_pure (wpAny_bind (L0.at (wpAny_bind (L3.at ?_)))))))
  exact wpAny_pure hR
 have done:wpAny (model prog w) A (handedOut v) Q E ⟨hp,g,d,t+1,os⟩:=by rw [handedOut_of hh];exact wpAny_pure h
 clear L0 L1 L2 L3 LB hf I G X
 repeat (any_goals (first|assumption|wp_step))
 exact key _ done
end
def tXat (K:Frag) (ea C:Addr) (dd:Option Addr) (ta:TE) (f:Str):TE:=fun σ H Q=>ta σ H fun x H1=>∃ da fs v,x=.ref ea/\dd=some da/\H1 da=some (exD da fs)/\XGet K C f/\fs.lookup f=some v/\Q v H1
section
variable {X:Cx} {e:Expr} {f:Str} {pos:Pos} {ta:TE} {ea C:Addr} {oe:Obj} {dd:Option Addr}
theorem pe_xat (hm:(ea,oe)∈X.pn) (hc:oe.cls=.ref C) (hdct:oe.dict=dd) (hd:∃ vs,oe.data=.fields vs) (he:PE X e ta) (hb:attributeBase e f X.env (eval e X.env)=eval e X.env:=by rfl):PE X (.Attribute e f pos) (tXat X.K ea C dd ta f):=by
 intro pins s σ H Q I h
 refine attr_of hb (thn (he pins s σ H _ I h) fun u s1 ⟨x,H1,I1,rx,da,fs,v,ex,ed,hH,G,l,q⟩=>?_)
 subst ex
 subst ed
 obtain rfl:u=Value.ref ea:=rx
 have p:=(I1.pin (ea,oe) (List.mem_append_left _ hm)).1
 obtain ⟨⟨mA,hn,r,wi⟩,_,_⟩:=I1.hok da _ hH
 obtain ⟨u,hu,ru⟩:=RelO.some_of (v:=v) (o:=mA f) (by rw [← l];exact r f)
 obtain ⟨od,ho,hl⟩:=ao4 hn
 obtain ⟨vs,hvs⟩:=hd
 have J:PySem.W.InstAt s1.heap ea oe C (some od):=⟨p,hc,by unfold notCls;rw [hvs],by rw [hdct];exact ho⟩
 exact getX I1.kIn J G (findObj_own G.hd G.na rfl (by rw [hl,hu])) (handed_of ru) ⟨v,H1,I1.tok _,ru,q⟩
end
end L2
namespace L2
open PySem PySem.Spec PyProof.Rows
structure FnOkS (P:Program) (w:World) (K:PySem.W.Frag) (mg:Str->Option Value) (base:Heap) (CX:CXT) (k:Nat) (f:Addr) (fd:FuncData) (ps:List Str) (sp:Shared->List Env->Sp):Prop where
 len:∀ s outer vs H Q E,sp s outer vs H Q E->vs.length=ps.length
 run:∀ (A:Around) (outer:List Env) (s:Shared) (H:Hp) (args:Args) (us:List Value) (vs:List V) (Q:VK) (E:XK),Room k A->Env0 P w K mg base A outer s H->BindsTo s fd args (ps.zip us)->Vals vs us->sp s outer vs H Q E->
  codeAny (model P w) A (.call (.ref f) args) (CR CX outer P w H s Q E) s
theorem fnS_of {CX:CXT} {P:Program} {w:World} {K:PySem.W.Frag} {mg:Str->Option Value} {base:Heap} {k:Nat} {f:Addr} {name qual:Str} {params:Arguments} {body:List Stmt} {scope:Scope} {dV kV doc pm cdv ct oc:Value} {an od:Option Addr}
 {osl:Array (Option Value)} {N ps:List Str} {sp:Shared->List Env->Sp} (lk:K.lookup f=some ⟨oc,od,.func (PySem.W.fnOf name qual params body scope dV kV doc pm an cdv ct),osl⟩) (hcd:PySem.W.codeIn K cdv qual=true) (S:a77 N ps scope)
 (len:∀ s outer vs H Q E,sp s outer vs H Q E->vs.length=ps.length)
 (hbody:∀ (A:Around) (outer:List Env) (s:Shared) (H:Hp) (vs:List V) (Q:VK) (E:XK),Room k (A.deeper (envOfC qual scope s.heap.objs.size f cdv))->sp s outer vs H Q E->
  ∃ t,PSs (cxOf CX P w K mg base N qual scope f cdv A outer s H E) body t/\t { nx:=fun _ H'=>Q .non H',rt:=Q } (start N vs) H) :
 FnOkS P w K mg base CX (k+1) f (PySem.W.fnOf name qual params body scope dV kV doc pm an cdv ct) ps sp:=by
 refine ⟨len,fun A outer s H args us vs Q E hr e0 hb r hsp=>?_⟩
 have hl:=len _ _ _ _ _ _ hsp
 have KX:K.In s.heap:=e0.mod.kin.keeps fun b o e=>(e0.bs b o e).1
 have lim:s.heap.NoLimit:=e0.mod.nolimit.keeps fun b o e=>(e0.bs b o e).1
 have hkind:∀ y∈ps.zip us,scope.names.lookup y.1=some .local∨(scope.names.lookup y.1=some .cell/\((cellsFrom (s.heap.objs.size+1) scope.names []).lookup y.1).isSome=true):=fun ⟨n,v⟩ hy=>by
  rcases S.par n (List.of_mem_zip hy).1 with q|q
  ·exact .inl q
  ·exact .inr ⟨q,PySem.W.cellsFrom_some _ _ _ (.inl q)⟩
 refine codeAny_call_function hr.depth (KX _ _ lk) rfl S.co S.gen rfl (PySem.W.codeRec_of KX hcd) (hb _ _ _ _ ?_)
 refine wpAny_newFunctionEnv_cells S.kind hkind fun env he s1 x=>?_
 subst he
 refine ⟨lim.keeps x.toInCall.keep,codeAny_func ?_⟩
 obtain ⟨t,ht,hq⟩:=hbody A outer s H vs Q E (hr.deeper _) hsp
 have I:Inv (cxOf CX P w K mg base N qual scope f cdv A outer s H E) [] (start N vs) H s1:=inv_start S hr.hd e0 hl r x
 refine wpAny_mono (ht [] s1 (start N vs) H _ I hq) (fun fl s' hs=>?_) fun e s' hs=>hs
 have fin:∀ {σ':St} {H':Hp} {v:V} {u:Value},Inv (cxOf CX P w K mg base N qual scope f cdv A outer s H E) [] σ' H' s'->RelV v u->Q v H'->CE outer P w H s Q u s':=
  fun {σ' H' v u} J rv q=>⟨v,H',J.os,J.bare,J.base,J.hok,rv,q⟩
 cases fl with
 | ret u=>
   obtain ⟨v,σ',H',J,rv,q⟩:=hs
   exact fin J rv q
 | next=>
   obtain ⟨σ',H',J,q⟩:=hs
   exact fin (v:=V.non) (u:=Value.none) J rfl q
 | brk=>
   obtain ⟨_,_,_,q⟩:=hs
   exact False.elim q
 | cont=>
   obtain ⟨_,_,_,q⟩:=hs
   exact False.elim q
section
variable {P:Program} {w:World} {K:PySem.W.Frag} {mg:Str->Option Value} {base:Heap}
theorem Fun.okS {CX:CXT} {x qual:Str} {st:Stmt} {f:Addr} {fd:FuncData} {N ps:List Str} {k:Nat} {sp:Shared->List Env->Sp} (F:Fun K x qual st f fd) (S:a77 N ps (a03 st)) (len:∀ s outer vs H Q E,sp s outer vs H Q E->vs.length=ps.length)
 (hbody:∀ (cdv:Value) (A:Around) (outer:List Env) (s:Shared) (H:Hp) (vs:List V) (Q:VK) (E:XK),Room k (A.deeper (envOfC qual (a03 st) s.heap.objs.size f cdv))->sp s outer vs H Q E->
  ∃ t,PSs (cxOf CX P w K mg base N qual (a03 st) f cdv A outer s H E) (a71 st) t/\t { nx:=fun _ H'=>Q .non H',rt:=Q } (start N vs) H):FnOkS P w K mg base CX (k+1) f fd ps sp:=by
 obtain ⟨oc,od,kV,doc,pm,an,cdv,ct,osl,rfl,lk,hcd⟩:=F.ex
 exact fnS_of lk hcd S len fun A outer s H vs Q E hr hsp=>hbody cdv A outer s H vs Q E hr hsp
theorem Fun.ok1 {CX:CXT} {x qual:Str} {st:Stmt} {f:Addr} {fd:FuncData} {N ps:List Str} {k:Nat} {sp:Sp} (F:Fun K x qual st f fd) (S:a77 N ps (a03 st)) (len:∀ vs H Q E,sp vs H Q E->vs.length=ps.length)
 (hbody:∀ (cdv:Value) (A:Around) (outer:List Env) (s:Shared) (H:Hp) (vs:List V) (Q:VK) (E:XK),Room k (A.deeper (envOfC qual (a03 st) s.heap.objs.size f cdv))->sp vs H Q E->
  ∃ t,PSs (cxOf CX P w K mg base N qual (a03 st) f cdv A outer s H E) (a71 st) t/\t { nx:=fun _ H'=>Q .non H',rt:=Q } (start N vs) H):FnOk P w K mg base CX (k+1) f fd ps sp:=by
 obtain ⟨oc,od,kV,doc,pm,an,cdv,ct,osl,rfl,lk,hcd⟩:=F.ex
 exact fn_of lk hcd S len fun A outer s H vs Q E hr hsp=>hbody cdv A outer s H vs Q E hr hsp
end
section
variable {X:Cx} {e:Expr} {f:Str} {pos:Pos} {ta:TE} {ea C:Addr} {oe:Obj} {ps:List (Addr×Obj)} {dd:Option Addr}
theorem pe_xatH (hm:(ea,oe)∈ps) (hc:oe.cls=.ref C) (hdct:oe.dict=dd) (hd:∃ vs,oe.data=.fields vs) (he:PE (hCx X ea ps) e ta) (hb:attributeBase e f X.env (eval e X.env)=eval e X.env:=by rfl):PE (hCx X ea ps) (.Attribute e f pos) (tXat X.K ea C dd ta f):=
 pe_xat (X:=hCx X ea ps) (List.mem_append_right _ hm) hc hdct hd he hb
end
end L2
namespace L2
open PySem PySem.Spec PyProof.Rows PySem.W
def ao6 (c:Addr) (qual:Str):HO:=.ext fun h=>h.CodeRec (.ref c) qual
theorem codeO_ok {P:Program} {w:World} {H:Hp} {h:Heap} {c:Addr} {qual:Str} (x:h.CodeRec (.ref c) qual):ab6 P w H h c (ao6 c qual):=by
 obtain ⟨c',o,vs,t,e,g,r⟩:=id x
 cases e
 refine ⟨x,⟨o,g⟩,fun h1 h2 z k=>?_⟩
 obtain ⟨c',o',vs',t',e',g',r'⟩:=z
 cases e'
 exact ⟨c,o',vs',t',rfl,k _ g',r'⟩
def lamO (f:Addr) (o:Obj):HO:=.ext fun h=>h.get? f=some o
theorem lamO_ok {P:Program} {w:World} {H:Hp} {h:Heap} {f:Addr} {o:Obj} (x:h.get? f=some o):ab6 P w H h f (lamO f o):=⟨x,⟨o,x⟩,fun h1 h2 z k=>k _ z⟩
def cxLam (P:Program) (w:World) (K:Frag) (mg:Str->Option Value) (base:Heap) (N:List Str) (qual:Str) (scope:Scope) (f:Addr) (cd:Value) (cl:List (Str×Addr)) (A:Around) (outer:List Env) (s:Shared) (H:Hp) (E:XK):Cx where
 prog:=P
 w:=w
 K:=K
 mg:=mg
 base:=base
 A:=A.deeper (envX qual scope s.heap.objs.size f cd cl)
 N:=N
 s₀:=s
 H₀:=H
 env:=envX qual scope s.heap.objs.size f cd cl
 outer:=outer
 stack:=envX qual scope s.heap.objs.size f cd cl::outer
 ex:=[]
 calm:=true
 fn:=fun _=>false
 pn:=[]
 xe:=fun e s'=>wpAny (model P w) (A.deeper (envX qual scope s.heap.objs.size f cd cl)) (leaving (envX qual scope s.heap.objs.size f cd cl) e) (fun _ s''=>CX1 P w outer H s E e s'') (fun e' s''=>CX1 P w outer H s E e' s'') s'
section
variable {P:Program} {w:World} {K:Frag} {mg:Str->Option Value} {base:Heap} {N:List Str} {qual:Str} {scope:Scope} {f:Addr} {cd:Value} {cl:List (Str×Addr)} {A:Around} {outer:List Env} {s:Shared} {H:Hp} {E:XK}
theorem xeL {pins:List (Addr×Obj)} {σ:St} {H':Hp} {s':Shared} {e:Addr} {cls:Value} {dd:Option Addr} (I:Inv (cxLam P w K mg base N qual scope f cd cl A outer s H E) pins σ H' s') (x:ah4 s'.heap H' s.heap e cls dd) (h:E cls dd H') :
 (cxLam P w K mg base N qual scope f cd cl A outer s H E).xe (.ref e) s':=
 leaveX I rfl rfl I.ok.frames rfl x fun h' x' u k=>⟨e,cls,dd,H',rfl,I.os,I.bare,u,k,x',h⟩
theorem passL {E':XK} (hE:∀ cls dd H',E' cls dd H'->E cls dd H'):ae4 (CX1 P w) (cxLam P w K mg base N qual scope f cd cl A outer s H E) E':=by
 intro pins σ H1 s1 e s' I h
 obtain ⟨ea,cls,dd,H',rfl,os,bare,un,hok,x,q⟩:=h
 have I':Inv (cxLam P w K mg base N qual scope f cd cl A outer s H E) pins σ H' s':=I.call' (ch:=[]) os un hok bare (fun b z=>absurd z (by simp))
 refine xeL I' (x.mono fun b hb=>?_) (hE _ _ _ q)
 cases z:s.heap.get? b with
 |none=>rfl
 | some o=>
   obtain ⟨o',q'⟩:=I.base.there b o z (by intro hz;cases hz)
   rw [hb] at q';cases q'
structure Clos (scope:Scope) (cl:List (Str×Addr)) (N:List Str) (g:Heap) (H:Hp) (fr:List Addr) (σ:St):Prop where
 inj:∀ x y c,cl.lookup x=some c->cl.lookup y=some c->x=y
 has:∀ x,(scope.names.lookup x=some .cell∨scope.names.lookup x=some .free)->∃ c,cl.lookup x=some c
 cell:∀ x c,cl.lookup x=some c->(∃ v,g.IsCell c v)/\H c=none/\c∉fr
 val:∀ (i:Nat) x v,N[i]?=some x->σ[i]?=some (some v)->scope.names.lookup x=some .free/\∃ c u,cl.lookup x=some c/\RelV v u/\g.IsCell c (some u)
 len:σ.length=N.length
theorem thunk_lam {g:Heap} {fr:List Addr} {σ:St} {k:Nat} {name:Str} {params:Arguments} {body:Expr} {pm ctv:Value} {c':Addr} {Qv:VK} {t:TE} (ho:H f=some (lamO f (kla_obj name qual params body scope cl pm c' ctv)))
 (hc:H c'=some (ao6 c' qual)) (C:Clos scope cl N g H fr σ) (hbind:bindArgs (kla_fn name qual params body scope cl pm (.ref c') ctv) ⟨[],[]⟩=pure [])
 (hco:scope.isCoroutine=false) (hgen:scope.isGenerator=false) (hk:scope.kind=.function) (hcell:∀ x∈scope.names,x.2≠.cell)
 (hb:∀ (A:Around) (outer:List Env) (s:Shared),Room k (A.deeper (envX qual scope s.heap.objs.size f (.ref c') cl))->PE (cxLam P w K mg base N qual scope f (.ref c') cl A outer s H E) body t) (hq:t σ H Qv):Thunk P w K mg base g H fr (k+1) f H Qv E:=by
 refine ⟨fun s hok=>⟨_,_,(hok f _ ho).1,rfl⟩,fun A outer s hr e0 kp=>?_⟩
 have lim:s.heap.NoLimit:=e0.mod.nolimit.keeps fun b o e=>(e0.bs b o e).1
 refine kla_callFunE hr.depth (e0.hok f _ ho).1 rfl hco hgen rfl (e0.hok c' _ hc).1 ?_
 rw [hbind]
 refine wpAny_pure (wpAny_newFunctionEnv hcell (fun y hy=>absurd hy (by simp)) (fun h₁ hns hsb=>⟨lim.fresh _ hsb,?_⟩) hk)
 show codeAny _ _ (.expr body (envX qual scope s.heap.objs.size f (.ref c') cl)) _ _
 have hk₁:∀ b o,s.heap.get? b=some o->h₁.get? b=some o:=fun b o e=>hsb.extBut b o (Nat.ne_of_lt (Heap.lt_size e)) (Heap.get?_push_of_some _ e)
 have isC:∀ x c v,cl.lookup x=some c->g.IsCell c v->h₁.IsCell c v:=fun x c v e z=>by
  obtain ⟨_,h2,h3⟩:=C.cell x c e
  obtain ⟨o,ho,hd⟩:=z
  exact ⟨o,hk₁ _ _ (kp _ _ ho h2 h3),hd⟩
 have noA:∀ b:Addr,b∉([]:List Addr):=fun b z=>absurd z (by simp)
 have I:Inv (cxLam P w K mg base N qual scope f (.ref c') cl A outer s H E) [] σ H { s with heap:=h₁,toks:=s.toks+0 }:=by
  refine ⟨⟨e0.mod,hk,rfl,rfl,Nat.le_refl _,C.inj,fun y hy=>C.has y hy,fun y c z=>absurd z (by simp [cxLam]),fun _=>hr.hd,Around.frames_deeper e0.frames,.inr ⟨rfl,rfl⟩,fun b z=>absurd z (noA b),e0.bs,e0.bsz,fun b _ _=>noA b,fun b z=>absurd z (noA b),e0.funs,e0.frf⟩,
   rfl,e0.bare,Un.kept hk₁,⟨_,hns,fun i y v h1 h2 h3=>?_⟩,fun y c h=>?_,e0.hok.fresh (Nat.le_refl _),fun y c h=>(C.cell y c h).2.1,fun p hp=>absurd (show p∈([]:List (Addr×Obj)) from hp) (by simp),e0.hok.kept hk₁,C.len⟩
  ·obtain ⟨fr',c,u,e,r,z⟩:=C.val i y v h1 h2
   exact ⟨u,r,.inr ⟨.inr fr',c,e,isC y c _ e z⟩⟩
  ·obtain ⟨⟨v,z⟩,_⟩:=C.cell y c h
   exact ⟨v,isC y c v h z⟩
 exact kla_codeExpr (wpAny_mono (hb A outer s (hr.deeper _) [] _ σ H Qv I hq) (fun u s' ⟨v,H',J,rv,q⟩=>⟨v,H',J.os,J.bare,J.base,J.hok,rv,q⟩) fun _ _ y=>y)
end
section
variable {X:Cx} {pins:List (Addr×Obj)} {σ:St} {H:Hp} {s:Shared} {h':Heap} {P c':Addr} {ps more:Array Value} {qual:Str}
theorem Inv.grow {t':Nat} (I:Inv X pins σ H s) (hP:H P=some (.tbl ps)) (hx:Heap.ExtBut P s.heap h') (hc:s.heap.objs.size≤c') (hcr:h'.CodeRec (.ref c') qual) (hp:h'.get? P=some { cls:=.none,data:=.fields (ps++more) }) :
 Inv X pins σ (upd (upd H P (.tbl (ps++more))) c' (ao6 c' qual)) { s with heap:=h',toks:=t' }:=by
 have hPl:P<s.heap.objs.size:=I.hok.lt hP
 have hcP:c'≠P:=fun q=>by subst q;exact absurd (Nat.lt_of_lt_of_le hPl hc) (Nat.lt_irrefl _)
 have lt:∀ b o,s.heap.get? b=some o->b≠c':=fun b o e q=>by subst q;exact absurd (Nat.lt_of_lt_of_le (Heap.lt_size e) hc) (Nat.lt_irrefl _)
 have neP:∀ b,H b=none->b≠P:=fun b e q=>by subst q;rw [hP] at e;cases e
 have kp:∀ b o,s.heap.get? b=some o->H b=none->h'.get? b=some o:=fun b o e n=>hx b o (neP b n) e
 have up:∀ b u,H b=some u->(∀ qs,u≠.tbl qs)->upd (upd H P (.tbl (ps++more))) c' (ao6 c' qual) b=some u:=fun b u e ne=>by
  have h1:b≠c':=fun q=>by subst q;exact absurd (Nat.lt_of_lt_of_le (I.hok.lt e) hc) (Nat.lt_irrefl _)
  have h2:b≠P:=fun q=>by subst q;rw [hP] at e;exact ne _ (Option.some.inj e).symm
  rw [a68 h1,a68 h2];exact e
 refine I.stepN (ch:=[]) (g':=s.gens) (d':=s.drawn) (t':=t') (fun b hb=>absurd hb (by simp)) (fun b o _ _ _ e n=>kp b o e n) (fun b o _ _ _ e n=>⟨o.slots,kp b o e n⟩) (fun b o _ e n=>?_) (fun b o _ e=>?_) (fun b xs e=>up b _ e (by intro _ q;cases q)) (fun b o u e=>up b _ e (by intro _ q;cases q)) (fun b qs e=>?_) (fun m hm=>?_) (fun b u e=>?_) I.bare
 ·rw [a68 (lt b o e),a68 (neP b n)];exact n
 ·by_cases q:b=P
  ·subst q;exact ⟨_,hp⟩
  ·exact ⟨o,hx b o q e⟩
 ·have h1:b≠c':=fun q=>by subst q;exact absurd (Nat.lt_of_lt_of_le (I.hok.lt e) hc) (Nat.lt_irrefl _)
  by_cases q:b=P
  ·subst q
   rw [hP] at e
   cases e
   exact ⟨more,by rw [a68 h1,a02]⟩
  ·exact ⟨#[],by rw [a68 h1,a68 q,e];simp⟩
 ·obtain ⟨o,es,ep,e,r⟩:=hm
  exact ⟨o,es,ep,kp _ _ e I.free,r⟩
 ·by_cases h1:b=c'
  ·subst h1
   rw [a02] at e
   cases e
   exact codeO_ok hcr
  ·rw [a68 h1] at e
   by_cases h2:b=P
   ·subst h2
    rw [a02] at e
    cases e
    exact hp
   ·rw [a68 h2] at e
    refine (I.hok b u e).stay (fun c v hc' q=>hx c v ?_ q) (fun c q=>up c _ q (by intro _ z;cases z)) fun c xs q=>up c _ q (by intro _ z;cases z)
    rintro rfl
    rcases hc' with rfl|z
    ·exact h2 rfl
    ·rw [hP] at z;cases z
structure CodeTab (X:Cx) (c P:Addr):Prop where
 code:X.env.code=.ref c
 hd:CodeHd X.base c P
 bl:X.base.BuiltinsAt X.mg P
 gP:mainGlobals≠P
def Lam (H:Hp) (P:Addr) (lp:Pos) (qual:Str) (c':Addr) (H1:Hp):Prop:=
 ∃ ps,H P=some (.tbl ps)/\((codeAmong lp ps.toList=none/\H c'=none/\c'≠P/\H1=upd (upd H P (.tbl (ps++#[rawInt lp.line,rawInt lp.col,.ref c']))) c' (ao6 c' qual))∨(codeAmong lp ps.toList=some (.ref c')/\H c'=some (ao6 c' qual)/\H1=H))
def TabOk (H:Hp) (P:Addr) (lp:Pos) (qual:Str):Prop:=∃ ps,H P=some (.tbl ps)/\TriplesOk ps.toList/\(codeAmong lp ps.toList=none∨∃ c',codeAmong lp ps.toList=some (.ref c')/\H c'=some (ao6 c' qual))
def tLam (X:Cx) (P:Addr) (params:Arguments) (body:Expr) (scope:Scope) (lp:Pos) (cl:List (Str×Addr)):TE:=fun _ H Q=>TabOk H P lp (X.env.qual++"<lambda>")/\∀ c' H1,Lam H P lp (X.env.qual++"<lambda>") c' H1->∀ f ctv,H1 f=none->Q (.ref f) (upd H1 f (lamO f (kla_obj "<lambda>" (X.env.qual++"<lambda>") params body scope cl ((X.mg "__name__").getD .none) c' ctv)))
theorem pe_lam {c:Addr} {params:Arguments} {body:Expr} {scope:Scope} {lp:Pos} {cl:List (Str×Addr)} (T:CodeTab X c P) (hdef:defaultsOf params X.env=([],[])) (hcl:closureFor scope X.env=pure cl):PE X (.Lambda params body scope lp) (tLam X P params body scope lp cl):=by
 intro pins s σ H Q I h
 obtain ⟨⟨ps,hP,ht,hor⟩,h⟩:=h
 refine kla_eval hdef ?_
 have hPo:s.heap.get? P=some (tabObj ps):=I.hok P _ hP
 have hg:s.heap.Ns mainGlobals X.mg:=by
  obtain ⟨o,es,ep,e,r⟩:=I.ok.mod.glob
  exact ⟨o,es,ep,I.bk _ _ e,r⟩
 have hb:s.heap.BuiltinsAt X.mg P:=by
  obtain ⟨bm,o,b1,b2,b3,b4,b5,b6⟩:=T.bl
  exact ⟨bm,o,b1,b2,b3,b4,I.bk _ _ b5,b6⟩
 rcases hor with hn|⟨c',hf,hc'⟩
 ·refine kla_makeFunction (mg:=X.mg) hcl I.ok.glob hg T.code (T.hd.keeps I.bk) hPo ht hn T.gP hb fun c' ctv h' tk hx hge hlt hrec htb=>?_
  have I1:=I.grow (t':=tk) hP hx hge hrec htb
  have hPl:P<s.heap.objs.size:=I.hok.lt hP
  have fr:upd (upd H P (.tbl (ps++#[rawInt lp.line,rawInt lp.col,.ref c']))) c' (ao6 c' (X.env.qual++"<lambda>")) h'.objs.size=none:=I1.hok.fresh (Nat.le_refl _)
  refine ⟨.ref h'.objs.size,_,I1.laid (a:=h'.objs.size) (t':=tk) (fun b u e=>Heap.get?_push_of_some _ e) (Nat.le_refl _) (lamO_ok (Heap.get?_push_size _ rfl)),rfl,h c' _ ⟨ps,hP,.inl ⟨hn,I.hok.fresh hge,fun q=>?_,rfl⟩⟩ _ ctv fr⟩
  subst q
  exact absurd (Nat.lt_of_lt_of_le hPl hge) (Nat.lt_irrefl _)
 ·refine kla_makeFunctionHit (mg:=X.mg) hcl I.ok.glob hg T.code (T.hd.keeps I.bk) hPo ht hf hb fun ctv h' tk hk hsz=>?_
  have fr:H h'.objs.size=none:=I.hok.fresh hsz
  exact ⟨.ref h'.objs.size,_,I.laid (a:=h'.objs.size) (h':=h'.push _) (t':=tk) (fun b u e=>Heap.get?_push_of_some _ (hk b u e)) hsz (lamO_ok (Heap.get?_push_size _ rfl)),rfl,h c' _ ⟨ps,hP,.inr ⟨hf,hc',rfl⟩⟩ _ ctv fr⟩
end
section
variable {X:Cx} {CX:CXT} {k:Nat} {f C:Addr} {fd:FuncData} {ps:List Str} {sp:Shared->List Env->Sp} {E:XK} {x:Str} {p pos:Pos} {e:Expr} {es:List Expr} {t:TA}
theorem run_fnS {pins:List (Addr×Obj)} {σ:St} {H:Hp} {s:Shared} {Q:VK} {us:List Value} {vs:List V} (F:FnOkS X.prog X.w X.K X.mg X.base CX k f fd ps sp) (hr:Room k X.A) (hb:Binds X.K fd ps []) (hx:ae4 CX X E)
 (I:Inv X pins σ H s) (r:Vals vs us) (h:sp s X.stack vs H Q E):wpAny (model X.prog X.w) X.A (call (.ref f) us) (EP X pins σ Q) X.xe s:=by
 have hl:us.length=ps.length:=by rw [← r.length];exact F.len _ _ _ _ _ _ h
 have hb':=hb s us I.kIn (by rw [List.append_nil];exact hl)
 rw [List.append_nil] at hb'
 refine wpAny_call (codeAny_mono (F.run X.A X.stack s H ⟨us,[]⟩ us vs Q E hr I.env0 hb' r h) fun r s' hq=>?_)
 cases r with
 |error e=>exact hx pins σ H s e s' I hq
 | ok fl=>
   cases fl with
   |ret u=>exact I.after hq
   |next=>exact False.elim hq
   |brk=>exact False.elim hq
   |cont=>exact False.elim hq
theorem pe_callS {r:St->List V->Hp->VK->Prop} (F:FnOkS X.prog X.w X.K X.mg X.base CX k f fd ps sp) (hr:Room k X.A) (hg:Gl X x) (hm:X.mg x=some (.ref f)) (hk:PySem.W.keepIn X.K (.ref f)=true) (hb:Binds X.K fd ps []) (hx:ae4 CX X E)
 (hsp:∀ pins σ H s vs Q,Inv X pins σ H s->r σ vs H Q->sp s X.stack vs H Q E) (ha:PA X (e::es) t) (hdb:(x == ("__debug__" : Str))=false:=by decide) (he:starEach (e::es) X.env=(false,eval e X.env)::starEach es X.env:=by rfl) (hpl:(backTo pos (starEach es X.env)).any (·.1)=false:=by rfl) :
 PE X (.Call (.Name x p) (e::es) [] pos) (fun σ H Q=>t σ H fun vs H1=>r σ vs H1 Q):=by
 intro pins s σ H Q I h
 refine wpAny_Call_Name_kw (ak2 I hg hm ?_ hdb)
 refine PySem.W.callWith_K (h₀:=X.base) I.ok.mod.kin hk (thn (ha pos pins s σ H _ I h) fun us s1 ⟨vs,H1,I1,r,q⟩=>⟨I1.kIn,?_⟩) he hpl
 exact run_fnS F hr hb hx I1 r (hsp _ _ _ _ _ _ I1 q)
theorem ae1 {cl:List (Str×Addr)} {x:Str} (h:x∈cl.map (·.1)):∃ c,cl.lookup x=some c:=by
 induction cl with
 |nil=>simp at h
 | cons q r ih=>
   obtain ⟨y,c⟩:=q
   rw [List.lookup_cons]
   by_cases e:(x == y)=true
   ·exact ⟨c,by rw [e]⟩
   ·have e':(x == y)=false:=by simpa using e
    rw [e']
    refine ih ?_
    rcases List.mem_cons.mp h with z|z
    ·exact absurd (beq_iff_eq.mpr z) e
    ·exact z
def freeV (js:List Nat) (σ:St):St:=js.map fun j=>(σ[j]?).join
theorem clos_of {pins:List (Addr×Obj)} {σ:St} {H:Hp} {s:Shared} {scope:Scope} {cl:List (Str×Addr)} {NL:List Str} {js:List Nat} (I:Inv X pins σ H s) (hcl:∀ p∈cl,X.env.cells.lookup p.1=some p.2) (hfn:∀ x,X.fn x=true)
 (hhas:∀ p∈scope.names,(p.2=.cell∨p.2=.free)->p.1∈cl.map (·.1)) (hfree:∀ x∈NL,scope.names.lookup x=some .free) (hown:∀ x∈NL,X.env.scope.names.lookup x=some .cell) (hN:NL.map some=js.map fun j=>X.N[j]?) (hst:X.stack=X.env::X.outer) (hfm:X.env.frame=some X.env.locals) :
 Clos scope cl NL s.heap H (frs X.stack) (freeV js σ):=by
 have sub:∀ x c,cl.lookup x=some c->X.env.cells.lookup x=some c:=fun x c e=>hcl (x,c) (PySem.mem_of_lookup e)
 have hlen:js.length=NL.length:=by simpa using (congrArg List.length hN).symm
 refine ⟨fun x y c h1 h2=>I.ok.inj x y c (sub x c h1) (sub y c h2),fun x hx=>?_,fun x c e=>⟨I.cell x c (sub x c e),I.freeC x c (sub x c e),fun hm=>?_⟩,fun i x v h1 h2=>?_,by unfold freeV;rw [List.length_map];exact hlen⟩
 ·refine ae1 ?_
  rcases hx with hx|hx
  ·exact hhas _ (PySem.mem_of_lookup hx) (.inl rfl)
  ·exact hhas _ (PySem.mem_of_lookup hx) (.inr rfl)
 ·rcases List.mem_cons.mp (I.stkSub c hm) with q|q
  ·exact I.cne x c (sub x c e) q
  ·obtain ⟨_,o,ho,_⟩:=I.ok.funs.mem q
   exact absurd (Nat.lt_of_lt_of_le (Heap.lt_size ho) (I.ok.cab x c (hfn x) (sub x c e))) (Nat.lt_irrefl _)
 ·have hx:x∈NL:=List.mem_of_getElem? h1
  have e1:(js.map fun j=>X.N[j]?)[i]?=some (some x):=by rw [← hN,List.getElem?_map,h1];rfl
  rw [List.getElem?_map] at e1
  obtain ⟨j,hj,e1⟩:=Option.map_eq_some_iff.mp e1
  unfold freeV at h2
  rw [List.getElem?_map,hj] at h2
  have h3:σ[j]?=some (some v):=by
   have h2:(σ[j]?).join=some v:=Option.some.inj h2
   cases e:σ[j]? with
   |none=>rw [e] at h2;cases h2
   | some a=>rw [e] at h2;cases a with
     |none=>cases h2
     |some b=>exact congrArg some h2
  obtain ⟨m,hn,hl⟩:=I.loc
  obtain ⟨u,r,lk⟩:=hl j x v e1 h3 (.inr (.inl (hown x hx)))
  refine ⟨hfree x hx,?_⟩
  rcases lk with ⟨kk,_⟩|⟨_,c,hc,z⟩
  ·have kk:X.env.scope.names.lookup x=some .local:=kk
   rw [hown x hx] at kk;cases kk
  ·obtain ⟨c2,e2⟩:=ae1 (hhas _ (PySem.mem_of_lookup (hfree x hx)) (.inr rfl))
   have:=sub x c2 e2
   rw [hc] at this
   cases this
   exact ⟨c,u,e2,r,z⟩
end
end L2
namespace L2
open PySem PySem.Spec PyProof.Rows
end L2
namespace L2
open PySem PySem.Spec PyProof.Rows PySem.W
def tabIn (K:Frag) (c:Addr):Option Addr:=match K.lookup c with
 | some o=>(match o.data with
   | .fields vs=>(match (vs[11]?:Option Value),vs.getD 18 .none,vs.getD 7 .none,vs.getD 9 .none,vs.getD 10 .none with
     |some (Value.ref P),.str _ _,.int _ _,.bool _,.int _ _=>if (o.cls == .type "code" && c != P)=true then some P else none
     |_,_,_,_,_=>none)
   |_=>none)
 |none=>none
theorem hd_of {K:Frag} {h:Heap} {c P:Addr} (X:K.In h) (e:tabIn K c=some P):CodeHd h c P:=by
 unfold tabIn at e
 split at e
 ·rename_i o ho
  split at e
  ·rename_i vs hd
   split at e
   ·rename_i P' x18 t18 x7 t7 x9 x10 t10 h11 h18 h7 h9 h10
    split at e
    ·rename_i hc
     cases e
     simp only [Bool.and_eq_true,beq_iff_eq,bne_iff_ne] at hc
     refine ⟨o,vs,x18,t18,x7,t7,x9,x10,t10,X _ _ ho,hc.1,hd,h11,?_,h18,h7,h9,h10,hc.2⟩
     rw [Array.getD_eq_getD_getElem?,h11]
     rfl
    ·cases e
   ·cases e
  ·cases e
 ·cases e
end L2
namespace L2
open PySem PySem.Spec PyProof.Rows PySem.SeqAt
section
variable {X:Cx}
def rInsert:V->List V->Hp->VK->Prop:=fun x vs H Q=>∃ (l:Addr) (xs:List V) (k:Nat) (y:V),x=.ref l/\vs=[.int k,y]/\H l=some (.lst xs)/\k≤xs.length/\xs.length<1000000/\Q .non (upd H l (.lst (xs.take k++y::xs.drop k)))
theorem mt_insert:MtM X "list.insert" rInsert:=by
 intro pins s σ H x vs v us Q I rx rv h
 obtain ⟨l,xs,k,y,rfl,rfl,hH,hk,hz,q⟩:=h
 cases rx
 cases rv with
 |cons r1 rv=>
  cases rv with
  |cons ru rv=>
   cases rv
   rename_i u
   obtain ⟨t,rfl⟩:=r1
   obtain ⟨z,its,n,r,hl,e⟩:=I.lstM hH
   have big:1000000≤sizeLine:=by decide
   have fit:¬ (!Builtin.List.listFitsIndex (k:Int))=true:=by
    rw [fitsIndex_both (by omega) (by omega)]
    decide
   have hsz:its.toArray.size≤sizeLine:=by rw [List.size_toArray];omega
   generalize hi:(k:Int)=i at fit
   refine call_meets F.slot_list_insert ⟨_,e,rfl⟩ F.entry_list_insert (F.args_list_insert_3 (.ref l) (.int i t) u) (AutoListH.list_insert_list_int_val_1 l its.toArray n i t u fit hsz) ⟨e,?_⟩
   subst hi
   have rt:Vals (xs.take k) (its.take k)/\Vals (xs.drop k) (its.drop k):=by
    clear hz q e hH hk hl z hsz fit
    induction r generalizing k with
    |nil=>rw [List.take_nil,List.take_nil,List.drop_nil,List.drop_nil];exact ⟨.nil,.nil⟩
    | cons a b ih=>
      cases k with
      |zero=>exact ⟨.nil,.cons a b⟩
      |succ k=>exact ⟨.cons a (ih (k:=k)).1,(ih (k:=k)).2⟩
   refine ⟨.non,_,I.lset (its':=its.take k++u::its.drop k) hH e ?_ (rt.1.append (.cons ru rt.2)) ?_,rfl,q⟩
   ·have h1:min (k:Int).toNat its.toArray.size=k:=by rw [List.size_toArray,Int.toNat_natCast];omega
    show ((its.toArray.extract 0 (if (k:Int)<0 then ((k:Int)+((its.toArray.size:Nat):Int)).toNat else min (k:Int).toNat its.toArray.size)).push u++its.toArray.extract (if (k:Int)<0 then ((k:Int)+((its.toArray.size:Nat):Int)).toNat else min (k:Int).toNat its.toArray.size))=_
    rw [if_neg (by omega),h1]
    apply Array.ext'
    simp
    exact List.take_of_length_le (by rw [List.length_drop];omega)
   ·rw [List.length_append,List.length_cons,List.length_take,List.length_drop]
    omega
end
def Its (x:Str):It:=⟨fun i _=>i<x.cps.size,fun i H v H'=>H'=H/\∃ c,x.cps[i]?=some c/\v=.str ⟨#[c]⟩,fun i _=>x.cps.size≤i⟩
theorem turn_str {P:Program} {w:World} {K:PySem.W.Frag} {tg:Expr} (x:Str) (t:Tok) (it:Addr):Turn P w K tg (Its x) [it] it (fun i h=>h.IsStrIter it "str_ascii_iterator" x t i) where
 mem:=by simp
 obj:=fun i h st b hb=>by
  have e:b=it:=by simpa using hb
  subst e
  obtain ⟨o,e,c,d⟩:=st
  exact ⟨o,e,fun v z=>by rw [d] at z;cases z⟩
 keep:=fun i h h' st k=>let ⟨o,e,r⟩:=st;⟨o,k it (by simp) o e,r⟩
 item:=by
  intro X hP hw hK hc i pins s σ H E I hf st hg
  subst hP hw hK
  obtain ⟨f0,f1,f2,f3,f4,f5⟩:=hf it (by simp)
  have hg':i<x.cps.size:=hg
  have hx:x.cps[i]?=some (x.cps[i]'hg'):=Array.getElem?_eq_getElem hg'
  refine wpAny_pyNext_ascii_item st hx fun h' st' sb=>?_
  have I1:Inv X pins σ H { s with heap:=h',toks:=s.toks+1 }:=I.turned (t':=s.toks+1) (fun b o hb e=>(sb.2 b hb).trans e) f0 f1 f3 f4 f5
  obtain ⟨o,e,c,d⟩:=id st'
  exact ⟨_,rfl,go_of (s:={ s with heap:=h',toks:=s.toks+1 }) e c d (by decide) ⟨.str ⟨#[x.cps[i]'hg']⟩,H,I1,⟨_,rfl⟩,⟨rfl,_,hx,rfl⟩,st',fun b hb=>(hf b hb).1⟩⟩
 done:=by
  intro X hP hw hK hc i pins s σ H E I hf st hg
  subst hP hw hK
  obtain ⟨f0,f1,f2,f3,f4,f5⟩:=hf it (by simp)
  have hx:x.cps[i]?=none:=Array.getElem?_eq_none hg
  exact wpAny_pyNext_ascii_end (I.ok.hd hc) st hx fun h' eb=>⟨rfl,I.turned (t':=s.toks) (fun b o hb e=>eb b o hb e) f0 f1 f3 f4 f5⟩
 self:=fun _ _ _ _ _ st h=>wpAny_pyIter_striter_ascii st h
section
variable {X:Cx} {tg:Expr}
def iStr (tl:TE):TI:=fun σ H R=>tl σ H fun v H1=>∃ x,v=.str x/\x.cps.all (·<128)=true/\R (Its x) H1
theorem pi_str {l:Expr} {tl:TE} (hl:PE X l tl):PI X tg l (iStr tl):=by
 intro pins s σ H R I h
 refine thn (hl pins s σ H _ I h) fun v s1 ⟨y,H1,I1,r1,x,e,ha,q⟩=>?_
 subst e
 obtain ⟨t,rfl⟩:=r1
 refine wpAny_pyIter_ascii ha ?_
 refine ⟨s1.heap.objs.size,[s1.heap.objs.size],_,_,H1,rfl,I1.kept (t':=s1.toks) fun b o e=>Heap.get?_push_of_some _ e,turn_str x t _,⟨_,Heap.get?_push_size _ rfl,rfl,rfl⟩,fun b hb=>?_,q⟩
 have e:b=s1.heap.objs.size:=by simpa using hb
 subst e
 exact I1.fpOk (Nat.le_refl _) (I1.hok.fresh (Nat.le_refl _))
end
theorem comp_str {x:Str} {g:TG} {te:TE} {F:List V->Hp->Prop} {σ0:St} {H0:Hp} (Pv:Nat->List V->St->Hp->Prop) (hn:x.cps.size≤sizeLine) (h0:Pv 0 [] σ0 H0)
 (hs:∀ i c ys σ H,x.cps[i]?=some c->ys.length=i->Pv i ys σ H->∀ N:List V->St->Hp->Prop,(∀ ys' σ' H',ys'.length=i+1->Pv (i+1) ys' σ' H'->N ys' σ' H')->g (.str ⟨#[c]⟩) σ H fun σ2 H2=>te σ2 H2 fun y H3=>N (ys++[y]) σ2 H3)
 (hd:∀ ys σ H,ys.length=x.cps.size->Pv x.cps.size ys σ H->F ys H) :
 ∃ W:Nat->Nat->List V->St->Hp->Prop,(∃ m,W 0 m [] σ0 H0)/\ar3 (Its x) g tYes te F W:=by
 refine ⟨fun i m ys σ H=>m=x.cps.size-i/\i≤x.cps.size/\ys.length=i/\Pv i ys σ H,⟨x.cps.size,by simp,Nat.zero_le _,rfl,h0⟩,?_⟩
 rintro i m ys σ H ⟨rfl,hi,hl,p⟩
 by_cases hlt:i<x.cps.size
 ·refine .inr ⟨hlt,by omega,fun v H' y=>?_⟩
  obtain ⟨e,c,hc,y⟩:=y
  subst e y
  exact hs i c ys σ _ hc hl p (fun ys' σ' H'=>∃ m',m'<x.cps.size-i/\m'=x.cps.size-(i+1)/\i+1≤x.cps.size/\ys'.length=i+1/\Pv (i+1) ys' σ' H') fun ys' σ' H' hl' q=>⟨x.cps.size-(i+1),by omega,rfl,hlt,hl',q⟩
 ·have e:i=x.cps.size:=by omega
  subst e
  exact .inl ⟨Nat.le_refl _,hd ys σ H hl p⟩
section
variable {X:Cx}
def rSlS:V->Option Int->Option Int->Hp->VK->Prop:=fun x lo hi H Q=>∃ z j,x=.str z/\lo=none/\hi=some j/\z.length≤sizeLine/\Q (.str (Txt.slice z none (some j))) H
theorem sl_str:SlR X rSlS:=by
 intro pins s σ H x v vl vu lo hi sl Q I rx hs pl pu h
 obtain ⟨z,j,rfl,rfl,rfl,hz,q⟩:=h
 obtain ⟨t,rfl⟩:=rx
 cases pl
 cases pu
 rename_i uj
 refine ⟨"str",_,F.slot_str_getitem.lookup,typeIs_str _ _ _,wpAny_getItem_str_slice (l:=none) (u:=some (j,uj)) (st:=none) ?_ rfl (post_val_or_str ⟨Nat.le_trans (Txt.slice_le z none (some j)) hz,fun t' k=>⟨.str _,H,I.tok _,⟨_,rfl⟩,q⟩⟩)⟩
 exact hs
theorem slice_sub (z:Str) (l u:Option Int):∀ c∈(Txt.slice z l u).cps.toList,c∈z.cps.toList:=by
 intro c hc
 unfold Txt.slice at hc
 split at hc
 ·exact hc
 ·rw [List.toList_toArray] at hc
  obtain ⟨i,_,e⟩:=List.mem_filterMap.mp hc
  rw [← Array.getElem?_toList] at e
  exact List.mem_of_getElem? e
end
section
variable {prog:Program} {w:World} {A:Around} {E:Value->Shared->Prop} {s:Shared} {l:Addr} {x y:Value}
end
section
variable {X:Cx} {pos:Pos}
end
section
variable {X:Cx} {CX:CXT} {k:Nat} {f C:Addr} {fd:FuncData} {ps ks:List Str} {sp:Sp} {E:XK} {x m:Str} {p pos apos kpos:Pos} {e o:Expr} {es:List Expr} {kws:List Keyword} {te ta:TE} {t tk:TA}
variable {g:List Value->List Value->List Value} {gV:List V->List V->List V}
end
end L2
namespace L2
open PySem PySem.Spec PyProof.Rows PySem.W
theorem ap1 {pos p:Pos} {c:Value} (l:List Value) (h:TriplesOk l):codeAmong pos (l++[rawInt p.line,rawInt p.col,c])=(codeAmong pos l).or (if (p.line:Int) == pos.line && (p.col:Int) == pos.col then some c else none):=by
 fun_induction TriplesOk l with
 |case1=>simp [codeAmong,rawInt]
 | case2 a t b u c' rest ih=>
   show codeAmong pos (.int a t::.int b u::c'::(rest++_))=_
   rw [codeAmong,codeAmong]
   split
   ·rfl
   ·exact ih h
 |case3=>exact h.elim
theorem triples_snoc {p:Pos} {c:Value} (l:List Value) (h:TriplesOk l):TriplesOk (l++[rawInt p.line,rawInt p.col,c]):=by
 fun_induction TriplesOk l with
 |case1=>simp [TriplesOk,rawInt]
 |case2 a t b u c' rest ih=>exact ih h
 |case3=>exact h.elim
def TabI (H:Hp) (T:Addr) (qual:Str) (lps:List Pos):Prop:=
 ∃ ps,H T=some (.tbl ps)/\TriplesOk ps.toList/\∀ lp∈lps,codeAmong lp ps.toList=none∨∃ c',codeAmong lp ps.toList=some (.ref c')/\H c'=some (ao6 c' qual)
theorem TabI.tab {H:Hp} {T:Addr} {qual:Str} {lps:List Pos} {lp:Pos} (h:TabI H T qual lps) (m:lp∈lps):TabOk H T lp qual:=by
 obtain ⟨ps,h1,h2,h3⟩:=h
 exact ⟨ps,h1,h2,h3 lp m⟩
theorem TabI.keep {H H':Hp} {T:Addr} {qual:Str} {lps:List Pos} (h:TabI H T qual lps) (k:∀ b u,H b=some u->(∀ kvs,u≠.dK kvs)->H' b=some u):TabI H' T qual lps:=by
 obtain ⟨ps,h1,h2,h3⟩:=h
 refine ⟨ps,k _ _ h1 (by intro _ z;cases z),h2,fun lp m=>?_⟩
 rcases h3 lp m with z|⟨c',z,e⟩
 ·exact .inl z
 ·exact .inr ⟨c',z,k _ _ e (by intro _ z;cases z)⟩
theorem TabI.same {H H':Hp} {T:Addr} {qual:Str} {lps:List Pos} (h:TabI H T qual lps) (s:Same H H'):TabI H' T qual lps:=h.keep fun b u e _=>s b u e
theorem Lam.code {H H1:Hp} {T c':Addr} {lp:Pos} {qual:Str} (h:Lam H T lp qual c' H1):H1 c'=some (ao6 c' qual):=by
 obtain ⟨ps,h1,⟨_,_,_,rfl⟩|⟨_,h2,rfl⟩⟩:=h
 ·exact a02
 ·exact h2
theorem Lam.keep {H H1:Hp} {T c':Addr} {lp:Pos} {qual:Str} (h:Lam H T lp qual c' H1) {b:Addr} {u:HO} (e:H b=some u) (ne:∀ ps,u≠.tbl ps):H1 b=some u:=by
 obtain ⟨ps,h1,⟨_,h2,_,rfl⟩|⟨_,h2,rfl⟩⟩:=h
 ·rw [a68 (a70 e h2),a68 (ah9 e h1 (ne _))];exact e
 ·exact e
theorem TabI.lam {H H1:Hp} {T c':Addr} {lp:Pos} {qual:Str} {lps:List Pos} (h:TabI H T qual lps) (l:Lam H T lp qual c' H1):TabI H1 T qual lps:=by
 obtain ⟨ps,h1,h2,h3⟩:=h
 obtain ⟨ps',e1,l⟩:=l
 rw [h1] at e1
 cases e1
 rcases l with ⟨hn,hc,ne,rfl⟩|⟨_,_,rfl⟩
 ·refine ⟨ps++#[rawInt lp.line,rawInt lp.col,.ref c'],by rw [a68 ne.symm,a02],?_,fun lp' m=>?_⟩
  ·rw [Array.toList_append]
   exact triples_snoc _ h2
  ·rw [Array.toList_append]
   show codeAmong lp' (ps.toList++[rawInt lp.line,rawInt lp.col,.ref c'])=none∨∃ c'',codeAmong lp' (ps.toList++[rawInt lp.line,rawInt lp.col,.ref c'])=Option.some (Value.ref c'')/\_
   rw [ap1 _ h2]
   rcases h3 lp' m with z|⟨c'',z,e⟩
   ·rw [z]
    by_cases q:((lp.line:Int) == lp'.line && (lp.col:Int) == lp'.col)=true
    ·rw [if_pos q]
     exact .inr ⟨c',rfl,a02⟩
    ·rw [if_neg q]
     exact .inl rfl
   ·rw [z]
    refine .inr ⟨c'',rfl,?_⟩
    rw [a68 (a70 e hc),a68 (ah9 e h1 (by intro z;cases z))];exact e
 ·exact ⟨ps,h1,h2,h3⟩
theorem law_callM {P:Program} {w:World} {K:PySem.W.Frag} {mg mb:Str->Option Value} {CX:CXT} {k:Nat} {fa a:Addr} {Ts:List Addr} {fd:FuncData} {x:Str} {sp:Sp} {s₁:Shared} {vs:List Value} {ns:List Int}
 (KX:K.In s₁.heap) (hns:s₁.heap.Ns mainGlobals mg) (hb:s₁.heap.Ns builtinsNs mb) (hbb:∀ x:Str,x ≠ "__name__"->mb x=bootBuiltins x) (hlim:s₁.heap.NoLimit) (hg:s₁.gens=#[])
 (ha:s₁.heap.get? a=some { cls:=.type "list",data:=.seq vs.toArray }) (hi:IntsAre vs ns) (hl:ns.length≤sizeLine) (hr:Room k callerA)
 (hT:∀ T∈Ts,s₁.heap.get? T=some (tabObj #[])/\K.lookup T=none/\∃ c,PySem.W.CodeHd s₁.heap c T)
 (F:∀ base:Heap,K.In base->base.Ns mainGlobals mg->(∀ b o,s₁.heap.get? b=some o->b∉Ts->b≠a->base.get? b=some o)->FnOk P w K mg base CX k fa fd [x] sp) (hbind:∀ (s:Shared) (u:Value),BindsTo s fd ⟨[u],[]⟩ [(x,u)])
 (hsp:∀ H:Hp,(∀ T∈Ts,H T=some (.tbl #[]))->SqL K H a (ns.map V.int)->sp [.ref a] H (fun v _=>v=.bl true) fun _ _ _=>False)
 (hCX:∀ H e s',CX [] H s₁ (fun _ _ _=>False) e s'->False) :
 codeAny (model P w) callerA (.call (.ref fa) ⟨[.ref a],[]⟩) (fun r s'=>r=.ok (.ret (.bool true))/\OldK s₁.heap s'.heap/\s'.os=s₁.os/\AllBare s'.gens) s₁:=by
 have rv:=vals_ints hi
 have lenV:=hi.length
 have haT:a∉Ts:=fun q=>by have:=(hT a q).1;rw [ha] at this;cases this
 have core:∀ H0:Hp,(∀ b,H0 b=none∨(b=a/\K.lookup a=none/\H0 b=some (.frz { cls:=.type "list",data:=.seq vs.toArray } (.lst (ns.map V.int)))))->SqL K (fun b=>if b∈Ts then some (.tbl #[]) else H0 b) a (ns.map V.int)->
  codeAny (model P w) callerA (.call (.ref fa) ⟨[.ref a],[]⟩) (fun r s'=>r=.ok (.ret (.bool true))/\OldK s₁.heap s'.heap/\s'.os=s₁.os/\AllBare s'.gens) s₁:=by
  intro H0 hO hS
  generalize hH:(fun b=>if b∈Ts then some (HO.tbl #[]) else H0 b:Hp)=H at hS
  have HT:∀ T∈Ts,H T=some (.tbl #[]):=fun T m=>by rw [← hH];exact if_pos m
  have Hne:∀ b,b∉Ts->H b=H0 b:=fun b e=>by rw [← hH];exact if_neg e
  have Hn:∀ b,b∉Ts->b≠a->H b=none:=fun b h1 h2=>by
   rw [Hne b h1]
   rcases hO b with z|⟨z,_⟩
   ·exact z
   ·exact absurd z h2
  have hok:HOk P w H s₁.heap:=fun b u e=>by
   by_cases q:b∈Ts
   ·rw [HT b q] at e;cases e
    exact (hT b q).1
   ·rw [Hne b q] at e
    rcases hO b with z|⟨rfl,_,z⟩
    ·rw [z] at e;cases e
    ·rw [z] at e;cases e
     exact ⟨ha,by rw [List.length_map];exact hl,vs,_,rv,ha⟩
  have nsN:∀ {b:Addr} {o:Obj} {es:Array DictEntry} {ep:Nat},s₁.heap.get? b=some o->o.data=.dict es ep->H b=none:=fun {b o es ep} e d=>by
   refine Hn b (fun q=>?_) (fun q=>?_)
   ·rw [(hT b q).1] at e;cases e;cases d
   ·subst q;rw [ha] at e;cases e;cases d
  have nsK:∀ {b:Addr} {m:Str->Option Value},s₁.heap.Ns b m->(hidT s₁.heap H).Ns b m:=fun {b m} ⟨o,es,ep,e,d,r⟩=>⟨o,es,ep,aq7 e (nsN e d),d,r⟩
  have hKb:K.In (hidT s₁.heap H):=fun b o e=>by
   refine aq7 (KX b o e) ?_
   have q:b∉Ts:=fun m=>by rw [(hT b m).2.1] at e;cases e
   rw [Hne b q]
   rcases hO b with z|⟨rfl,z,_⟩
   ·exact z
   ·rw [z] at e;cases e
  have hM:Mod K mg (hidT s₁.heap H):=⟨hKb,nsK hns,⟨mb,nsK hb,hbb⟩,let ⟨mc,h1,h2⟩:=hlim;⟨mc,nsK h1,h2⟩⟩
  have e0:Env0 P w K mg (hidT s₁.heap H) callerA [] s₁ H:=⟨rfl,hM,fun b o e=>of_hidT e,Nat.le_of_eq (hidT_size _ _),trivial,fun b hb=>absurd (show b∈([]:List Addr) from hb) (by simp),hok,.of_eq hg⟩
  refine codeAny_mono ((F _ hKb (nsK hns) fun b o e h1 h2=>aq7 e (Hn b h1 h2)).run callerA [] s₁ H ⟨[.ref a],[]⟩ [.ref a] [.ref a] _ _ hr e0 (hbind s₁ (.ref a)) (.cons rfl .nil) (hsp H HT hS)) fun r s' h=>?_
  cases r with
  |error e=>exact (hCX H e s' h).elim
  | ok fl=>
    cases fl with
    |next=>exact False.elim h
    |brk=>exact False.elim h
    |cont=>exact False.elim h
    | ret u=>
      obtain ⟨v,H',os,bare,un,hok',r',q⟩:=h
      cases (show v=.bl true from q)
      cases (show u=Value.bool true from r')
      have was:∀ b o,s₁.heap.get? b=some o->b∉Ts->s'.heap.get? b=some o:=fun b o e h1=>by
       rcases hO b with z|⟨rfl,_,z⟩
       ·exact un.keep b o e (by rw [Hne b h1];exact z) (by intro z;exact absurd (show b∈([]:List Addr) from z) (by simp)) (by simp)
       ·have z2:=un.frzs b _ _ ((Hne b h1).trans z)
        obtain ⟨e2,_⟩:=hok' b _ z2
        rw [ha] at e;cases e
        exact e2
      have tbs:∀ T∈Ts,∃ more,s'.heap.get? T=some { cls:=.none,data:=.fields (#[]++more) }:=fun T m=>by
       obtain ⟨more,hm⟩:=un.tbls T #[] (HT T m)
       exact ⟨more,hok' T _ hm⟩
      refine ⟨rfl,⟨fun b o e=>?_,fun b o e=>?_⟩,os,bare⟩
      ·by_cases h1:b∈Ts
       ·obtain ⟨more,tb⟩:=tbs b h1
        obtain ⟨h2,_,c,hc⟩:=hT b h1
        rw [h2] at e;cases e
        exact .inr (.inl ⟨(hc.tab h2).isCodeTable,rfl,#[],more,rfl,tb⟩)
       ·exact .inl (was b o e h1)
      ·by_cases h1:b∈Ts
       ·obtain ⟨more,tb⟩:=tbs b h1
        exact ⟨_,tb⟩
       ·exact ⟨o,was b o e h1⟩
 cases hk:K.lookup a with
 | some o=>
   have e:=KX a o hk
   rw [ha] at e
   cases e
   exact core (fun _=>none) (fun _=>.inl rfl) (.inr ⟨_,vs.toArray,_,hk,rfl,rfl,rfl,by rw [List.size_toArray,lenV];exact hl,by simpa using rv⟩)
 | none=>
   refine core (fun b=>if b=a then some (.frz { cls:=.type "list",data:=.seq vs.toArray } (.lst (ns.map V.int))) else none) (fun b=>?_) (.inl (.inr ⟨_,(if_neg haT).trans (if_pos rfl)⟩))
   by_cases h:b=a
   ·exact .inr ⟨h,hk,if_pos h⟩
   ·exact .inl (if_neg h)
theorem walk_ofM {l:PySem.W.OpenLaw} {n k:Nat} {q:Program} {loose:List Str} {XP:(Str->Option Value)->Heap->Prop} {YP:World->Heap->Prop} {d:DefRec} {K:Params->PySem.W.Frag} {CX:World->CXT} {x:Str} {Ts:List Addr}
 (hn:l.most=some n) (hn2:n≤sizeLine) (hdf:d.params.defaults=[]) (hr:Room k callerA)
 (hY:∀ (w:World) (h:Heap),YP w h->(K w.params).In h) (hYT:∀ (w:World) (h:Heap),YP w h->∀ T∈Ts,h.get? T=some (tabObj #[]))
 (F:∀ (w:World) (mg:Str->Option Value) (fa:Addr) (h:Heap),(K w.params).In h->h.Ns mainGlobals mg->mg d.name=some (.ref fa)->
  ∃ (fd:FuncData) (sp:Sp),(∀ (s:Shared) (u:Value),BindsTo s fd ⟨[u],[]⟩ [(x,u)])/\(∀ T∈Ts,(K w.params).lookup T=none/\∃ c,tabIn (K w.params) c=some T)/\
    (∀ (H:Hp) (a:Addr) (ns:List Int),ns.length≤n->(∀ T∈Ts,H T=some (.tbl #[]))->SqL (K w.params) H a (ns.map V.int)->sp [.ref a] H (fun v _=>v=.bl true) fun _ _ _=>False)/\
    ∀ base:Heap,(K w.params).In base->base.Ns mainGlobals mg->(∀ T∈Ts,base.BuiltinsAt mg T/\mainGlobals≠T)->FnOk l.prog w (K w.params) mg base (CX w) k fa fd [x] sp)
 (hCX:∀ (w:World) (H:Hp) (s:Shared) (e:Value) (s':Shared),CX w [] H s (fun _ _ _=>False) e s'->False) :
 PySem.W.WalkO q loose XP YP l.row.toRowW d [] (fun f vs=>PySem.call f vs):=by
 refine Att.attach_call hn hdf fun w s₀ s₁ mg mb fa o pm cd doc a vs ns G Y ho hd hcd hmg hobj hints hlen hg=>?_
 have KX:=hY w _ Y
 have TX:=hYT w _ Y
 obtain ⟨fd,sp,hb,ht,hsp,hF⟩:=F w mg fa _ KX G.T.g hmg
 obtain ⟨bm,ob,b1,b2,b3,b4,b5,b6⟩:=G.T.bmain
 have gT:∀ T∈Ts,mainGlobals≠T:=fun T m q=>by
  obtain ⟨o,es,ep,e,hd,_⟩:=G.T.g
  rw [q,TX T m] at e;cases e;cases hd
 have bT:bm∉Ts:=fun m=>by
  rw [TX _ m] at b3;cases b3;cases b4
 have ba:bm≠a:=fun q=>by
  rw [q,hobj] at b3;cases b3;cases b6
 have bG:bm≠mainGlobals:=fun q=>by
  obtain ⟨o,es,ep,e,hd,_⟩:=G.T.g
  rw [q,e] at b3;cases b3;rw [hd] at b6;cases b6
 exact law_callM KX G.T.g G.T.b G.T.builtins G.T.nolimit hg hobj hints (Nat.le_trans hlen hn2) hr (fun T m=>⟨TX T m,(ht T m).1,let ⟨c,z⟩:=(ht T m).2;⟨c,hd_of KX z⟩⟩) (fun base kb nb old=>hF base kb nb fun T m=>⟨⟨bm,ob,b1,b2,bG,fun q=>bT (q ▸ m),old _ _ b3 bT ba,b4,b5,b6⟩,gT T m⟩) hb (fun H hH hS=>hsp H a ns hlen hH hS) fun H e s'=>hCX w H s₁ e s'
end L2
namespace L2
open PySem PySem.Spec PyProof.Rows
section
variable {X:Cx} {scope:Scope} {own:List Str} {js:List Nat} {N':List Str} {wi:TI} {g:TG} {tt:TT} {tk tv:TE} {ke ve tg iter:Expr} {ifs:List Expr} {pos:Pos}
end
end L2
namespace L2
open PySem PySem.Spec PyProof.Rows PySem.SeqAt
theorem len1 {α:Type} {us:List α} (h:us.length=1):∃ a,us=[a]:=List.length_eq_one_iff.mp h
theorem len2 {α:Type} {us:List α} (h:us.length=2):∃ a b,us=[a,b]:=by
 cases us with
 |nil=>cases h
 | cons a r=>
   obtain ⟨b,rfl⟩:=len1 (us:=r) (by simpa using h)
   exact ⟨a,b,rfl⟩
theorem len3 {α:Type} {us:List α} (h:us.length=3):∃ a b c,us=[a,b,c]:=by
 cases us with
 |nil=>cases h
 | cons a r=>
   obtain ⟨b,c,rfl⟩:=len2 (us:=r) (by simpa using h)
   exact ⟨a,b,c,rfl⟩
theorem len4 {α:Type} {us:List α} (h:us.length=4):∃ a b c d,us=[a,b,c,d]:=by
 cases us with
 |nil=>cases h
 | cons a r=>
   obtain ⟨b,c,d,rfl⟩:=len3 (us:=r) (by simpa using h)
   exact ⟨a,b,c,d,rfl⟩
end L2
namespace L2
open PySem PySem.Spec PyProof.Rows
theorem ao1:∀ {ns:List Int} {us:List Value},Vals (ns.map V.int) us->∃ ps:List (Int×Tok),us=ps.map (fun p=>Value.int p.1 p.2)/\ps.map (·.1)=ns
 |[],_,r=>by rw [List.map_nil] at r;cases r;exact ⟨[],rfl,rfl⟩
 | n::ns,_,r=>by
   rw [List.map_cons] at r
   cases r with
   | cons h t=>
     obtain ⟨tk,rfl⟩:=(show ∃ t,_=Value.int n t from h)
     obtain ⟨ps,e1,e2⟩:=ao1 t
     exact ⟨(n,tk)::ps,by rw [e1];rfl,by rw [List.map_cons,e2]⟩
theorem numAt_eq {ps:List (Int×Tok)} {ns:List Int} (e:ps.map (·.1)=ns) {i:Nat} (h:i<ns.length):numAt ps.toArray i=ns[i]:=by
 subst e
 unfold numAt
 simp at h ⊢
 rw [List.getElem?_eq_getElem h]
 rfl
theorem items_eq {ps:List (Int×Tok)}:(ps.map (fun p=>Value.int p.1 p.2)).toArray=intItems ps.toArray:=by
 unfold intItems
 simp
section
variable {X:Cx}
theorem call_maxL (hc:X.calm=true):ag5 X (.builtin "max") (fun xs H Q=>∃ p ns,xs=[.ref p]/\SqL X.K H p (ns.map V.int)/\ns≠[]/\∀ b,b∈ns->(∀ x∈ns,x≤b)->Q (.int b) H):=by
 intro pins s σ H xs us Q I r h
 obtain ⟨p,ns,rfl,hq,hne,q⟩:=h
 obtain ⟨u,rfl,ru⟩:=vals1 r
 cases (show u=Value.ref p from ru)
 obtain ⟨its,rv,pl,hz⟩:=I.list hq
 obtain ⟨ps,rfl,e⟩:=ao1 rv
 have hl:ps.length=ns.length:=by rw [← e,List.length_map]
 have hpos:0<ns.length:=List.length_pos_iff.mpr hne
 have pl':=pl.isList
 rw [items_eq] at pl'
 refine max_intList (I.ok.hd hc) pl' (by simp;omega) fun v h' tk hv k=>?_
 have hb:=argBest_gt (numAt ps.toArray) (ps.toArray.size-1)
 generalize argBest (fun i j=>decide (numAt ps.toArray i > numAt ps.toArray j)) (ps.toArray.size-1)=m at hv hb
 have hm:m<ns.length:=by have:=hb.1;simp at this;omega
 obtain ⟨t,rfl⟩:=intItems_at hv
 rw [numAt_eq e hm]
 refine ⟨.int ns[m],H,I.kept k,⟨_,rfl⟩,q _ (List.getElem_mem hm) fun x hx=>?_⟩
 obtain ⟨j,hj,rfl⟩:=List.getElem_of_mem hx
 have:=hb.2 j (by simp;omega)
 rw [numAt_eq e hj,numAt_eq e hm] at this
 exact this
end
theorem aq0 {K:PySem.W.Frag} {a:Addr} {xs:List V} {g:TG} {tt:TT} {te:TE} {F:List V->Hp->Prop} {σ0:St} {H0:Hp} (Pv:Nat->List V->St->Hp->Prop) (hn:xs.length≤sizeLine) (h0:Pv 0 [] σ0 H0) (hq:∀ i ys σ H,i≤xs.length->Pv i ys σ H->SqL K H a xs)
 (hs:∀ i x ys σ H,xs[i]?=some x->Pv i ys σ H->∀ N:List V->St->Hp->Prop,(∀ ys' σ' H',Pv (i+1) ys' σ' H'->ys'.length≤ys.length+1->N ys' σ' H')->g x σ H fun σ2 H2=>tt σ2 H2 fun b H3=>if b=true then te σ2 H3 fun y H4=>N (ys++[y]) σ2 H4 else N ys σ2 H3)
 (hd:∀ ys σ H,ys.length≤xs.length->Pv xs.length ys σ H->F ys H) :
 ∃ W:Nat->Nat->List V->St->Hp->Prop,(∃ m,W 0 m [] σ0 H0)/\ar3 (Itl K a) g tt te F W:=by
 refine ⟨fun i m ys σ H=>m=xs.length-i/\i≤xs.length/\ys.length≤i/\Pv i ys σ H,⟨xs.length,by simp,Nat.zero_le _,Nat.zero_le _,h0⟩,?_⟩
 rintro i m ys σ H ⟨rfl,hi,hl,p⟩
 have q:=hq i ys σ H hi p
 by_cases hlt:i<xs.length
 ·refine .inr ⟨⟨xs,xs[i],q,by simp [hlt]⟩,by omega,fun x H' y=>?_⟩
  obtain ⟨e,y⟩:=y
  subst e
  refine hs i x ys σ _ (y xs q) p (fun ys' σ' H'=>∃ m',m'<xs.length-i/\m'=xs.length-(i+1)/\i+1≤xs.length/\ys'.length≤i+1/\Pv (i+1) ys' σ' H') fun ys' σ' H' q hl'=>⟨xs.length-(i+1),by omega,rfl,hlt,by omega,q⟩
 ·have e:i=xs.length:=by omega
  subst e
  exact .inl ⟨⟨xs,q,Nat.le_refl _⟩,hd ys σ H hl p⟩
end L2
namespace L2
open PySem PySem.Spec PyProof.Rows PySem.SeqAt
def EvE (t:TE) (σ:St) (H:Hp) (v:V):Prop:=∀ Q:VK,Q v H->t σ H Q
def EvT (t:TT) (σ:St) (H:Hp) (b:Bool):Prop:=∀ Q:Bool->Hp->Prop,Q b H->t σ H Q
def EvR (r:R2) (x y:V) (H:Hp) (v:V):Prop:=∀ Q:VK,Q v H->r x y H Q
section
variable {σ:St} {H:Hp} {ta tb tc:TE} {t u:TT} {x y z v:V} {r r':R2} {k k':Bool} {f:TF} {m n:Nat}
theorem EvE.var {i:Nat} (h:σ[i]?=some (some v)):EvE (tVar i) σ H v:=fun Q q=>⟨v,h,q⟩
theorem EvE.con:EvE (tC v) σ H v:=fun Q q=>q
theorem EvE.op (a:EvE ta σ H x) (b:EvE tb σ H y) (c:EvR r x y H v):EvE (tOp r ta tb) σ H v:=fun Q q=>a _ (b _ (c _ q))
theorem EvE.neg {i:Int} (a:EvE ta σ H (.int i)):EvE (tUn (rU fun i=>.int (-i)) ta) σ H (.int (-i)):=fun Q q=>a _ ⟨i,rfl,q⟩
theorem EvR.i0 {g:Int->Int->V} {i j:Int}:EvR (rI0 g) (.int i) (.int j) H (g i j):=fun Q q=>⟨i,j,rfl,rfl,q⟩
theorem EvT.test {t:TE} (a:EvE t σ H (.bl k)):EvT (tTest t) σ H k:=fun Q q=>a _ ⟨k,rfl,q⟩
theorem EvE.chain (a:EvE ta σ H x) (b:EvE tb σ H y) (c:EvE tc σ H z) (h:EvR r x y H (.bl k)) (h':EvR r' y z H (.bl k')):EvE (tChain r r' ta tb tc) σ H (.bl (k && k')):=fun Q q=>a _ (b _ (h _ ⟨k,rfl,by
 cases k with
 |false=>exact ifF rfl q
 |true=>exact ifT rfl (c _ (h' _ q))⟩))
theorem EvT.not (a:EvT t σ H k):EvT (tNot t) σ H (!k):=fun Q q=>a _ q
theorem EvT.iff {D:Ends} {a b:TS} (h:EvT t σ H k) (q:if k=true then a D σ H else b D σ H):tIfS t a b D σ H:=h _ q
end
variable {X:Cx}
def rNeL (K:PySem.W.Frag):R2:=fun x y H Q=>∃ d e,Rep K H x (.list d)/\Rep K H y (.list e)/\a95 d≤60/\Q (.bl (!af1 d e)) H
theorem op_neL (hu:X.A.units+64<cLine):OpR X (compareOp .NotEq) (rNeL X.K):=by
 intro pins s σ H x y v u Q I rx ry h
 obtain ⟨d,e,h1,h2,hd,q⟩:=h
 cases h1 with
 | lst g1 rs1=>
   cases h2 with
   | lst g2 rs2=>
     cases (show v=Value.ref _ from rx)
     cases (show u=Value.ref _ from ry)
     obtain ⟨its1,rv1,p1,_⟩:=I.list g1
     obtain ⟨its2,rv2,p2,_⟩:=I.list g2
     have hz:=allEq (X:=X) (H:=H) (A:=X.A) rs1 rs2 rv1 rv2
     by_cases hs:its1.toArray.size=its2.toArray.size
     ·have hw:=RcNeAt.lists (A:=X.A) p1.isList p2.isList hs (by omega)
       (e:=fun j=>pdEq (d.getD j .none) (e.getD j .none)) (fun j h1 h2=>by simpa using ao0 I rs1 rs2 rv1 rv2 (A:=X.A.in1) (by show X.A.units+1+_<_;omega) j (by simpa using h1) (by simpa using h2))
      rw [← hs,Nat.min_self,beq_self_eq_true,Bool.and_true] at hz
      rw [hz] at hw
      exact hw _ _ _ _ ⟨.bl _,H,I,rfl,q⟩
     ·have hw:=RcNeAt.lists_lengths (A:=X.A) p1.isList p2.isList (by simpa using hs) (by omega)
      have:af1 d e=false:=by
       rw [← hz,beq_eq_false_iff_ne.mpr hs,Bool.and_false]
      rw [this] at q
      exact hw _ _ _ _ ⟨.bl _,H,I,rfl,q⟩
section
variable {σ:St} {H:Hp} {ta tb:TE} {k k':Bool} {x y:V}
end
section
variable {X:Cx}
end
theorem ai0 {f:Nat->Int} {ns:List Int} (h:∀ i (hi:i<ns.length),f i=ns[i]):∀ k,k≤ns.length->preSum f k=(ns.take k).sum
 |0,_=>rfl
 | k+1,hk=>by
   have hk':k<ns.length:=hk
   show preSum f k+f k=_
   rw [ai0 h k (Nat.le_of_lt hk'),h k hk',List.take_add_one,List.getElem?_eq_getElem hk',List.sum_append]
   simp
theorem sum_bound {B:Int}:∀ {ns:List Int},(∀ x∈ns,-B≤x/\x≤B)->0≤B->-(B*ns.length)≤ns.sum/\ns.sum≤B*ns.length
 |[],_,_=>by simp
 | n::ns,h,hB=>by
   have h1:=h n (List.mem_cons_self ..)
   have h2:=sum_bound (ns:=ns) (fun x hx=>h x (List.mem_cons_of_mem _ hx)) hB
   rw [List.sum_cons,List.length_cons,Int.natCast_succ,Int.mul_add,Int.mul_one]
   omega
section
variable {X:Cx}
theorem call_sumL (hc:X.calm=true):ag5 X (.builtin "sum") (fun xs H Q=>∃ (p:Addr) (ns:List Int),xs=[.ref p]/\SqL X.K H p (ns.map V.int)/\ns.length≤1000/\(∀ x∈ns,-10000000000000≤x/\x≤10000000000000)/\Q (.int ns.sum) H):=by
 intro pins s σ H xs us Q I r h
 obtain ⟨p,ns,rfl,hq,hl,hb,q⟩:=h
 obtain ⟨u,rfl,ru⟩:=vals1 r
 cases (show u=Value.ref p from ru)
 obtain ⟨its,rv,pl,hz⟩:=I.list hq
 obtain ⟨ps,rfl,e⟩:=ao1 rv
 have hlen:ps.length=ns.length:=by rw [← e,List.length_map]
 have pl':=pl.isList
 rw [items_eq] at pl'
 have at_:∀ i (hi:i<ns.length),numAt ps.toArray i=ns[i]:=fun i hi=>numAt_eq e hi
 refine sum_intList (I.ok.hd hc) pl' (fun j hj=>?_) fun h' tk t' k=>?_
 ·have hj':j<ns.length:=by simpa [hlen] using hj
  rw [at_ j hj',ai0 at_ (j+1) hj']
  have b1:=hb _ (List.getElem_mem hj')
  have b2:=sum_bound (B:=10000000000000) (ns:=ns.take (j+1)) (fun x hx=>hb x (List.mem_of_mem_take hx)) (by decide)
  have b3:(ns.take (j+1)).length≤1000:=by rw [List.length_take];omega
  refine ⟨⟨?_,?_⟩,?_,?_⟩ <;> omega
 ·have:preSum (numAt ps.toArray) ps.toArray.size=ns.sum:=by
   rw [List.size_toArray,hlen,ai0 at_ _ (Nat.le_refl _),List.take_length]
  rw [this]
  exact ⟨.int _,H,I.kept k,⟨_,rfl⟩,q⟩
end
section
variable {X:Cx}
end
end L2
namespace L2
open PySem PySem.Spec PyProof.Rows
section
variable {X:Cx} {pins:List (Addr×Obj)} {σ:St} {H:Hp} {s:Shared}
end
section
variable {X:Cx} {scope:Scope} {own:List Str} {js:List Nat} {N':List Str} {wi:TI} {g:TG} {tt:TT} {te:TE} {elt tg iter:Expr} {ifs:List Expr} {pos:Pos}
end
end L2
namespace L2
open PySem
end L2
namespace L2
open PySem PySem.Spec PyProof.Rows PySem.SeqAt
abbrev ah1 (h:Heap) (z TI TO:Addr) (f0:Value) (b:Bool):Prop:=
 h.get? z=some { cls:=.type "zip",dict:=none,data:=.fields #[f0,.bool b,.bool false,.ref TI,.ref TO],slots:=#[] }
section
variable {prog:Program} {w:World} {A:Around} {E:Value->Shared->Prop} {s:Shared}
theorem alive_any {a:Addr} {Q:Option Obj->Shared->Prop} (h:Q (s.heap.get? a) s):wpAny (model prog w) A (loadIfAlive a) Q E s:=by
 exact fun _ _ _=>h
theorem zip_free {z TI TO:Addr} {f0:Value} {b:Bool} {Q:Bool->Shared->Prop} (hz:ah1 s.heap z TI TO f0 b) (hf:f0=.none∨∃ a:Int,f0=rawInt a)
 (hT:Q true s) (hF:∀ h',ah1 h' z TI TO f0 true->Heap.SameBut z s.heap h'->Q false { s with heap:=h' }):wpAny (model prog w) A (Builtin.SmallTypes.ownedTupleIsFree (.ref z)) Q E s:=by
 unfold Builtin.SmallTypes.ownedTupleIsFree
 rcases hf with rfl|⟨a,rfl⟩
 ·exact wpAny_bind (wpAny_field hz rfl (x:=.none) rfl (wpAny_pure hT))
 ·refine wpAny_bind (wpAny_field hz rfl (x:=rawInt a) rfl ?_)
  show wpAny _ _ (loadIfAlive a.toNat >>= _) _ _ _
  refine wpAny_bind (alive_any ?_)
  cases hR:s.heap.get? a.toNat with
  |none=>exact wpAny_pure hT
  | some o=>
    show wpAny _ _ (field (.ref z) 1 >>= _) _ _ _
    refine wpAny_bind (wpAny_field hz rfl (x:=.bool b) rfl ?_)
    cases b with
    |true=>exact wpAny_pure (hF s.heap hz (Heap.SameBut.refl ..))
    | false=>
      show wpAny _ _ (setField (.ref z) 1 (.bool true) >>= _) _ _ _
      exact wpAny_bind (wpAny_setField_rec hz (by simp) fun h₁ hz₁ hs₁=>wpAny_pure (hF h₁ hz₁ hs₁))
structure ZS (h:Heap) (z TI TO i1 i2 a1 a2:Addr) (k1 k2:Nat):Prop where
 zz:∃ f0 b,ah1 h z TI TO f0 b/\(f0=.none∨∃ a:Int,f0=rawInt a)
 ti:IsPair h TI (.ref i1) (.ref i2)
 to:∃ x y,IsPair h TO x y
 h1:h.IsTupleIter i1 a1 k1
 h2:h.IsTupleIter i2 a2 k2
theorem a87 {h h':Heap} {c it l:Addr} {i:Nat} (x:h.IsTupleIter it l i) (hs:Heap.ExtBut c h h') (hc:it≠c):h'.IsTupleIter it l i:=x.at fun o e=>hs _ _ hc e
theorem ab0 {h h':Heap} {c l:Addr} {xs:Array Value} (x:h.IsTuple l xs) (hs:Heap.ExtBut c h h') (hc:l≠c):h'.IsTuple l xs:=let ⟨o,e,r⟩:=x;⟨o,hs _ _ hc e,r⟩
theorem zipT_item {z TI TO i1 i2 a1 a2:Addr} {k1 k2:Nat} {xs ys:Array Value} {x y:Value} {Q:Value->Shared->Prop} (D:ZipApart z TI TO i1 i2 a1 a2) (S:ZS s.heap z TI TO i1 i2 a1 a2 k1 k2)
 (t1:s.heap.IsTuple a1 xs) (t2:s.heap.IsTuple a2 ys) (hx:xs[k1]?=some x) (hy:ys[k2]?=some y)
 (hQ:∀ h',ZS h' z TI TO i1 i2 a1 a2 (k1+1) (k2+1)->IsPair h' s.heap.objs.size x y->h'.objs.size=s.heap.objs.size+1->
  (∀ c o,c≠z->c≠TO->c≠i1->c≠i2->s.heap.get? c=some o->h'.get? c=some o)->Q (.ref s.heap.objs.size) { s with heap:=h' }) :
 wpAny (model prog w) A (Builtin.«zip.__next__» ⟨[.ref z],[]⟩) (fun fin s'=>∃ v,fin=.done (.ret v)/\Q v s') E s:=by
 obtain ⟨⟨f0,b,hz,hf⟩,hTI,⟨a,b',hTO⟩,h1,h2⟩:=S
 show wpAny _ _ (field (.ref z) 2 >>= _) _ _ _
 refine wpAny_bind (wpAny_field hz rfl (x:=.bool false) rfl ?_)
 show wpAny _ _ (field (.ref z) 3 >>= _) _ _ _
 refine wpAny_bind (wpAny_field hz rfl (x:=.ref TI) rfl ?_)
 refine wpAny_bind (wpAny_seqItems hTI rfl ?_)
 show wpAny _ _ (Builtin.SmallTypes.ownedTupleIsFree (.ref z) >>= _) _ _ _
 refine wpAny_bind (zip_free hz hf ?_ fun h₀ hz₀ hs₀=>?_)
 ·simp only [if_true]
  refine wpAny_bind (wpAny_rule ?_)
  refine wpAny_bind (wpAny_field hz rfl (x:=.ref TO) rfl ?_)
  refine wpAny_bind (wpAny_setField_rec hz (by simp) fun h₁ hz₁ hs₁=>?_)
  replace hz₁:ah1 h₁ z TI TO .ellipsis b:=hz₁
  refine wpAny_bind ?_
  simp only [List.zipIdx_cons,List.zipIdx_nil,List.forIn_cons,List.forIn_nil]
  refine wpAny_bind (wpAny_bind (wpAny_onRaise ?_))
  show wpAny _ _ (Builtin.SmallTypes.nextOf (.ref i1) >>= _) _ _ _
  refine wpAny_bind (af4 (a87 h1 hs₁.extBut D.i1z) (ab0 t1 hs₁.extBut D.l1z) hx fun h₂ h1₂ hs₂=>wpAny_pure ?_)
  have hTO₂:IsPair h₂ TO a b':=hs₂.extBut _ _ D.TOi1 (hs₁.extBut _ _ D.TOz hTO)
  refine wpAny_bind (wpAny_seqItems hTO₂ rfl ?_)
  refine wpAny_bind (wpAny_updateSeq_pair hTO₂ fun h₃ hTO₃ hs₃=>?_)
  replace hTO₃:IsPair h₃ TO x b':=hTO₃
  refine wpAny_bind (wpAny_letGo (wpAny_pure ?_))
  refine wpAny_bind (wpAny_bind (wpAny_onRaise ?_))
  show wpAny _ _ (Builtin.SmallTypes.nextOf (.ref i2) >>= _) _ _ _
  refine wpAny_bind (af4 (a87 (a87 (a87 h2 hs₁.extBut D.i2z) hs₂.extBut D.i12.symm) hs₃.extBut D.TOi2.symm)
   (ab0 (ab0 (ab0 t2 hs₁.extBut D.l2z) hs₂.extBut D.l2i1) hs₃.extBut D.l2TO) hy fun h₄ h2₄ hs₄=>wpAny_pure ?_)
  have hTO₄:IsPair h₄ TO x b':=hs₄.extBut _ _ D.TOi2 hTO₃
  refine wpAny_bind (wpAny_seqItems hTO₄ rfl ?_)
  refine wpAny_bind (wpAny_updateSeq_pair hTO₄ fun h₅ hTO₅ hs₅=>?_)
  replace hTO₅:IsPair h₅ TO x y:=hTO₅
  refine wpAny_bind (wpAny_letGo (wpAny_pure (wpAny_pure ?_)))
  refine wpAny_bind (wpAny_seqItems hTO₅ rfl ?_)
  refine wpAny_bind (wpAny_newTuple ?_)
  have hsz:h₅.objs.size=s.heap.objs.size:=by rw [hs₅.1,hs₄.1,hs₃.1,hs₂.1,hs₁.1]
  have hz₅:ah1 h₅ z TI TO .ellipsis b:=hs₅.extBut _ _ D.TOz.symm (hs₄.extBut _ _ D.i2z.symm (hs₃.extBut _ _ D.TOz.symm (hs₂.extBut _ _ D.i1z.symm hz₁)))
  have hk₅:∀ c o,c≠z->c≠TO->c≠i1->c≠i2->s.heap.get? c=some o->h₅.get? c=some o:=fun c o c1 c2 c3 c4 e=>
   hs₅.extBut _ _ c2 (hs₄.extBut _ _ c4 (hs₃.extBut _ _ c2 (hs₂.extBut _ _ c3 (hs₁.extBut _ _ c1 e))))
  have h1₅:h₅.IsTupleIter i1 a1 (k1+1):=a87 (a87 (a87 h1₂ hs₃.extBut D.TOi1.symm) hs₄.extBut D.i12) hs₅.extBut D.TOi1.symm
  have h2₅:h₅.IsTupleIter i2 a2 (k2+1):=a87 h2₄ hs₅.extBut D.TOi2.symm
  have hzlt:z<h₅.objs.size:=Heap.lt_size hz₅
  show wpAny _ _ (Builtin.SmallTypes.ownedTupleHandOut (.ref z) (.ref h₅.objs.size) >>= _) _ _ _
  refine wpAny_bind ?_
  unfold Builtin.SmallTypes.ownedTupleHandOut
  have hz₆:ah1 (h₅.push { cls:=.type "tuple",data:=.seq #[x,y] }) z TI TO .ellipsis b:=Heap.get?_push_of_some _ hz₅
  refine wpAny_bind (wpAny_setField_rec hz₆ (by simp) fun h₇ hz₇ hs₇=>?_)
  replace hz₇:ah1 h₇ z TI TO (rawInt h₅.objs.size) b:=hz₇
  refine wpAny_setField_rec hz₇ (by simp) fun h₈ hz₈ hs₈=>?_
  replace hz₈:ah1 h₈ z TI TO (rawInt h₅.objs.size) false:=hz₈
  have up:∀ c o,c≠z->h₅.get? c=some o->h₈.get? c=some o:=fun c o c1 e=>hs₈.extBut _ _ c1 (hs₇.extBut _ _ c1 (Heap.get?_push_of_some _ e))
  have hT₈:IsPair h₈ h₅.objs.size x y:=hs₈.extBut _ _ (Nat.ne_of_gt hzlt) (hs₇.extBut _ _ (Nat.ne_of_gt hzlt) (Heap.get?_push_size _ rfl))
  have hz8:h₈.objs.size=h₅.objs.size+1:=by rw [hs₈.1,hs₇.1,Heap.size_push]
  rw [hsz] at hT₈ hz8
  refine wpAny_pure ⟨_,rfl,?_⟩
  show Q (.ref h₅.objs.size) _
  rw [hsz]
  exact hQ h₈ ⟨⟨_,_,hz₈,.inr ⟨_,rfl⟩⟩,up _ _ D.TIz (hk₅ _ _ D.TIz D.TITO D.TIi1 D.TIi2 hTI),⟨_,_,up _ _ D.TOz hTO₅⟩,h1₅.at fun o e=>up _ o D.i1z e,h2₅.at fun o e=>up _ o D.i2z e⟩ hT₈ hz8 fun c o c1 c2 c3 c4 e=>up c o c1 (hk₅ c o c1 c2 c3 c4 e)
 ·simp only [Bool.false_eq_true,if_false]
  rw [← Array.forIn_toList]
  simp only [List.forIn_cons,List.forIn_nil]
  refine wpAny_bind (wpAny_bind (wpAny_bind (wpAny_holding ?_)))
  show wpAny _ _ (Builtin.SmallTypes.nextOf (.ref i1) >>= _) _ _ _
  refine wpAny_bind (af4 (a87 h1 hs₀.extBut D.i1z) (ab0 t1 hs₀.extBut D.l1z) hx fun h₂ h1₂ hs₂=>wpAny_pure (wpAny_pure ?_))
  dsimp only
  refine wpAny_bind (wpAny_bind (wpAny_holding ?_))
  show wpAny _ _ (Builtin.SmallTypes.nextOf (.ref i2) >>= _) _ _ _
  refine wpAny_bind (af4 (a87 (a87 h2 hs₀.extBut D.i2z) hs₂.extBut D.i12.symm) (ab0 (ab0 t2 hs₀.extBut D.l2z) hs₂.extBut D.l2i1) hy fun h₄ h2₄ hs₄=>wpAny_pure (wpAny_pure ?_))
  dsimp only
  refine wpAny_pure ?_
  dsimp only
  refine wpAny_bind (wpAny_newTuple ?_ (by show 2≤sizeLine;decide))
  have hsz:h₄.objs.size=s.heap.objs.size:=by rw [hs₄.1,hs₂.1,hs₀.1]
  have hk₄:∀ c o,c≠z->c≠TO->c≠i1->c≠i2->s.heap.get? c=some o->h₄.get? c=some o:=fun c o c1 c2 c3 c4 e=>hs₄.extBut _ _ c4 (hs₂.extBut _ _ c3 (hs₀.extBut _ _ c1 e))
  have hz₄:ah1 h₄ z TI TO f0 true:=hs₄.extBut _ _ D.i2z.symm (hs₂.extBut _ _ D.i1z.symm hz₀)
  have up:∀ c o,h₄.get? c=some o->(h₄.push { cls:=.type "tuple",data:=.seq #[x,y] }).get? c=some o:=fun c o e=>Heap.get?_push_of_some _ e
  refine wpAny_pure ⟨_,rfl,?_⟩
  show Q (.ref h₄.objs.size) _
  have hT:IsPair (h₄.push { cls:=.type "tuple",data:=.seq #[x,y] }) h₄.objs.size x y:=Heap.get?_push_size _ rfl
  have hz8:(h₄.push { cls:=.type "tuple",data:=.seq #[x,y] }).objs.size=h₄.objs.size+1:=Heap.size_push ..
  rw [hsz] at hT hz8
  rw [hsz]
  have hTO₄:IsPair h₄ TO a b':=hs₄.extBut _ _ D.TOi2 (hs₂.extBut _ _ D.TOi1 (hs₀.extBut _ _ D.TOz hTO))
  exact hQ _ ⟨⟨_,_,up _ _ hz₄,hf⟩,up _ _ (hk₄ _ _ D.TIz D.TITO D.TIi1 D.TIi2 hTI),⟨_,_,up _ _ hTO₄⟩,(a87 h1₂ hs₄.extBut D.i12).at fun o e=>up _ o e,h2₄.at fun o e=>up _ o e⟩ hT hz8 fun c o c1 c2 c3 c4 e=>up c o (hk₄ c o c1 c2 c3 c4 e)
theorem zipT_end {z TI TO i1 i2 a1 a2:Addr} {k1 k2:Nat} {xs ys:Array Value} {Q:Fin->Shared->Prop} (hh:A.handled=none) (D:ZipApart z TI TO i1 i2 a1 a2) (S:ZS s.heap z TI TO i1 i2 a1 a2 k1 k2)
 (t1:s.heap.IsTuple a1 xs) (t2:s.heap.IsTuple a2 ys) (hend:xs[k1]?=none∨ys[k2]?=none)
 (hE:∀ h' e,(∀ c o,c≠z->c≠TO->c≠i1->c≠i2->s.heap.get? c=some o->h'.get? c=some o)->(∃ o,h'.get? e=some o/\o.cls=.type "StopIteration")->E (.ref e) { s with heap:=h' }) :
 wpAny (model prog w) A (Builtin.«zip.__next__» ⟨[.ref z],[]⟩) Q E s:=by
 obtain ⟨⟨f0,b,hz,hf⟩,hTI,⟨a,b',hTO⟩,h1,h2⟩:=S
 show wpAny _ _ (field (.ref z) 2 >>= _) _ _ _
 refine wpAny_bind (wpAny_field hz rfl (x:=.bool false) rfl ?_)
 show wpAny _ _ (field (.ref z) 3 >>= _) _ _ _
 refine wpAny_bind (wpAny_field hz rfl (x:=.ref TI) rfl ?_)
 refine wpAny_bind (wpAny_seqItems hTI rfl ?_)
 show wpAny _ _ (Builtin.SmallTypes.ownedTupleIsFree (.ref z) >>= _) _ _ _
 refine wpAny_bind (zip_free hz hf ?_ fun h₀ hz₀ hs₀=>?_)
 ·simp only [if_true]
  refine wpAny_bind (wpAny_rule ?_)
  refine wpAny_bind (wpAny_field hz rfl (x:=.ref TO) rfl ?_)
  refine wpAny_bind (wpAny_setField_rec hz (by simp) fun h₁ hz₁ hs₁=>?_)
  replace hz₁:ah1 h₁ z TI TO .ellipsis b:=hz₁
  refine wpAny_bind ?_
  simp only [List.zipIdx_cons,List.zipIdx_nil,List.forIn_cons,List.forIn_nil]
  refine wpAny_bind (wpAny_bind (wpAny_onRaise ?_))
  show wpAny _ _ (Builtin.SmallTypes.nextOf (.ref i1) >>= _) _ _ _
  cases hx:xs[k1]? with
  | none=>
    refine wpAny_bind (ae5 hh (a87 h1 hs₁.extBut D.i1z) (ab0 t1 hs₁.extBut D.l1z) hx fun h₂ e hs₂ he=>?_)
    obtain ⟨oe,hoe,hce⟩:=he
    have hz₂:ah1 h₂ z TI TO .ellipsis b:=hs₂ _ _ D.i1z.symm hz₁
    have hez:e≠z:=fun x=>by subst x;rw [hz₂] at hoe;cases hoe;simp at hce
    refine wpAny_setField_rec hz₂ (by simp) fun h₃ _ hs₃=>hE h₃ e (fun c o c1 _ c3 _ x=>hs₃.extBut _ _ c1 (hs₂ _ _ c3 (hs₁.extBut _ _ c1 x))) ⟨oe,hs₃.extBut _ _ hez hoe,hce⟩
  | some x=>
    have hy:ys[k2]?=none:=by rcases hend with h|h;rw [hx] at h;cases h;exact h
    refine wpAny_bind (af4 (a87 h1 hs₁.extBut D.i1z) (ab0 t1 hs₁.extBut D.l1z) hx fun h₂ h1₂ hs₂=>wpAny_pure ?_)
    have hTO₂:IsPair h₂ TO a b':=hs₂.extBut _ _ D.TOi1 (hs₁.extBut _ _ D.TOz hTO)
    refine wpAny_bind (wpAny_seqItems hTO₂ rfl ?_)
    refine wpAny_bind (wpAny_updateSeq_pair hTO₂ fun h₃ hTO₃ hs₃=>?_)
    refine wpAny_bind (wpAny_letGo (wpAny_pure ?_))
    refine wpAny_bind (wpAny_bind (wpAny_onRaise ?_))
    show wpAny _ _ (Builtin.SmallTypes.nextOf (.ref i2) >>= _) _ _ _
    refine wpAny_bind (ae5 hh (a87 (a87 (a87 h2 hs₁.extBut D.i2z) hs₂.extBut D.i12.symm) hs₃.extBut D.TOi2.symm)
     (ab0 (ab0 (ab0 t2 hs₁.extBut D.l2z) hs₂.extBut D.l2i1) hs₃.extBut D.l2TO) hy fun h₄ e hs₄ he=>?_)
    obtain ⟨oe,hoe,hce⟩:=he
    have hz₄:ah1 h₄ z TI TO .ellipsis b:=hs₄ _ _ D.i2z.symm (hs₃.extBut _ _ D.TOz.symm (hs₂.extBut _ _ D.i1z.symm hz₁))
    have hez:e≠z:=fun x=>by subst x;rw [hz₄] at hoe;cases hoe;simp at hce
    refine wpAny_setField_rec hz₄ (by simp) fun h₅ _ hs₅=>hE h₅ e (fun c o c1 c2 c3 c4 x=>hs₅.extBut _ _ c1 (hs₄ _ _ c4 (hs₃.extBut _ _ c2 (hs₂.extBut _ _ c3 (hs₁.extBut _ _ c1 x))))) ⟨oe,hs₅.extBut _ _ hez hoe,hce⟩
 ·simp only [Bool.false_eq_true,if_false]
  rw [← Array.forIn_toList]
  simp only [List.forIn_cons,List.forIn_nil]
  refine wpAny_bind (wpAny_bind (wpAny_bind (wpAny_holding ?_)))
  show wpAny _ _ (Builtin.SmallTypes.nextOf (.ref i1) >>= _) _ _ _
  cases hx:xs[k1]? with
  | none=>
    refine wpAny_bind (ae5 hh (a87 h1 hs₀.extBut D.i1z) (ab0 t1 hs₀.extBut D.l1z) hx fun h₂ e hs₂ he=>?_)
    exact hE h₂ e (fun c o c1 _ c3 _ x=>hs₂ _ _ c3 (hs₀.extBut _ _ c1 x)) he
  | some x=>
    have hy:ys[k2]?=none:=by rcases hend with h|h;rw [hx] at h;cases h;exact h
    refine wpAny_bind (af4 (a87 h1 hs₀.extBut D.i1z) (ab0 t1 hs₀.extBut D.l1z) hx fun h₂ h1₂ hs₂=>wpAny_pure (wpAny_pure ?_))
    dsimp only
    refine wpAny_bind (wpAny_bind (wpAny_holding ?_))
    show wpAny _ _ (Builtin.SmallTypes.nextOf (.ref i2) >>= _) _ _ _
    refine wpAny_bind (ae5 hh (a87 (a87 h2 hs₀.extBut D.i2z) hs₂.extBut D.i12.symm) (ab0 (ab0 t2 hs₀.extBut D.l2z) hs₂.extBut D.l2i1) hy fun h₄ e hs₄ he=>?_)
    exact hE h₄ e (fun c o c1 c2 c3 c4 x=>hs₄ _ _ c4 (hs₂.extBut _ _ c3 (hs₀.extBut _ _ c1 x))) he
theorem nextZ_item {z TI TO i1 i2 a1 a2:Addr} {k1 k2:Nat} {xs ys:Array Value} {x y:Value} {Q:Value->Shared->Prop} (D:ZipApart z TI TO i1 i2 a1 a2) (S:ZS s.heap z TI TO i1 i2 a1 a2 k1 k2)
 (t1:s.heap.IsTuple a1 xs) (t2:s.heap.IsTuple a2 ys) (hx:xs[k1]?=some x) (hy:ys[k2]?=some y)
 (hQ:∀ h',ZS h' z TI TO i1 i2 a1 a2 (k1+1) (k2+1)->IsPair h' s.heap.objs.size x y->h'.objs.size=s.heap.objs.size+1->
  (∀ c o,c≠z->c≠TO->c≠i1->c≠i2->s.heap.get? c=some o->h'.get? c=some o)->Q (.ref s.heap.objs.size) { s with heap:=h' }) :
 wpAny (model prog w) A (Builtin.SmallTypes.nextOf (.ref z)) Q E s:=by
 obtain ⟨f0,b,hz,_⟩:=S.zz
 have hT:s.TypeIs (.ref z) "zip":=⟨_,hz,rfl⟩
 unfold Builtin.SmallTypes.nextOf
 exact wpAny_bind (wpAny_callSpecial?_slot (name:=Str.ofString "__next__") hT F.slot_zip_next (wpAny_call_entry F.slot_zip_next hT F.entry_zip_next
  (zipT_item D S t1 t2 hx hy fun h' a1 a2 a3 a4=>wpAny_pure (hQ h' a1 a2 a3 a4)) (F.args_zip_next_1 _)))
theorem nextZ_end {z TI TO i1 i2 a1 a2:Addr} {k1 k2:Nat} {xs ys:Array Value} {Q:Value->Shared->Prop} (hh:A.handled=none) (D:ZipApart z TI TO i1 i2 a1 a2) (S:ZS s.heap z TI TO i1 i2 a1 a2 k1 k2)
 (t1:s.heap.IsTuple a1 xs) (t2:s.heap.IsTuple a2 ys) (hend:xs[k1]?=none∨ys[k2]?=none)
 (hE:∀ h' e,(∀ c o,c≠z->c≠TO->c≠i1->c≠i2->s.heap.get? c=some o->h'.get? c=some o)->(∃ o,h'.get? e=some o/\o.cls=.type "StopIteration")->E (.ref e) { s with heap:=h' }) :
 wpAny (model prog w) A (Builtin.SmallTypes.nextOf (.ref z)) Q E s:=by
 obtain ⟨f0,b,hz,_⟩:=S.zz
 have hT:s.TypeIs (.ref z) "zip":=⟨_,hz,rfl⟩
 unfold Builtin.SmallTypes.nextOf
 exact wpAny_bind (wpAny_callSpecial?_slot (name:=Str.ofString "__next__") hT F.slot_zip_next (wpAny_call_entry F.slot_zip_next hT F.entry_zip_next (zipT_end (A:=A.in1) hh D S t1 t2 hend hE) (F.args_zip_next_1 _)))
theorem enum_draw {e it:Addr} {i:Nat} {old:Value} {Q:Value->Shared->Prop} (he:IsEnum s.heap e it i old)
 (draw:wpAny (model prog w) A (Builtin.SmallTypes.nextOf (.ref it)) (fun x s₁=>∃ h₁ tk,s₁={ s with heap:=h₁,toks:=tk }/\IsEnum h₁ e it i old/\
  ∀ h',IsEnumOut h' e it ((i:Int)+1) x h₁.objs.size->h'.get? h₁.objs.size=some { cls:=.type "tuple",data:=.seq #[.int i tk,x] }->(∀ b o,b≠e->h₁.get? b=some o->h'.get? b=some o)->
    Q (.ref h₁.objs.size) { s with heap:=h',toks:=tk+1 }) E s) :
 wpAny (model prog w) A (Builtin.«enumerate.__next__» ⟨[.ref e],[]⟩) (fun fin s'=>∃ v,fin=.done (.ret v)/\Q v s') E s:=by
 obtain ⟨hp,g,d,tk₀,os⟩:=s
 show wpAny _ _ (field (.ref e) 2 >>= _) _ _ _
 refine wpAny_bind (wpAny_field he rfl (x:=.ref it) rfl ?_)
 refine wpAny_bind (wpAny_mono draw (fun x s₁ hx=>?_) fun _ _ z=>z)
 obtain ⟨h₁,tk,rfl,he₁,hQ⟩:=hx
 show wpAny _ _ (field (.ref e) 3 >>= _) _ _ ⟨h₁,g,d,tk,os⟩
 refine wpAny_bind (wpAny_field he₁ rfl (x:=rawInt i) rfl ?_)
 show wpAny _ _ (field (.ref e) 4 >>= _) _ _ ⟨h₁,g,d,tk,os⟩
 refine wpAny_bind (wpAny_field he₁ rfl (x:=.none) rfl ?_)
 show wpAny _ _ (mkInt i >>= _) _ _ ⟨h₁,g,d,tk,os⟩
 refine wpAny_bind (wpAny_mkInt ?_)
 show wpAny _ _ (setField (.ref e) 3 (rawInt ((i:Int)+1)) >>= _) _ _ ⟨h₁,g,d,tk+1,os⟩
 refine wpAny_bind (wpAny_setField_rec he₁ (by simp) fun h₂ he₂ hs₂=>?_)
 replace hs₂:Heap.SameBut e h₁ h₂:=hs₂
 replace he₂:IsEnum h₂ e it ((i:Int)+1) old:=he₂
 show wpAny _ _ (setField (.ref e) 4 .none >>= _) _ _ ⟨h₂,g,d,tk+1,os⟩
 refine wpAny_bind (wpAny_setField_rec he₂ (by simp) fun h₃ he₃ hs₃=>?_)
 replace hs₃:Heap.SameBut e h₂ h₃:=hs₃
 replace he₃:IsEnum h₃ e it ((i:Int)+1) old:=he₃
 show wpAny _ _ (newTuple [.int i tk,x] >>= _) _ _ ⟨h₃,g,d,tk+1,os⟩
 refine wpAny_bind (wpAny_newTuple ?_)
 have he₄:IsEnum (h₃.push { cls:=.type "tuple",data:=.seq #[.int i tk,x] }) e it ((i:Int)+1) old:=Heap.get?_push_of_some _ he₃
 have hsz:h₃.objs.size=h₁.objs.size:=by rw [hs₃.1,hs₂.1]
 have ht₄:(h₃.push { cls:=.type "tuple",data:=.seq #[.int i tk,x] }).get? h₃.objs.size=some { cls:=.type "tuple",data:=.seq #[.int i tk,x] }:=Heap.get?_push_size _ rfl
 have hk₄:∀ b o,b≠e->h₁.get? b=some o->(h₃.push { cls:=.type "tuple",data:=.seq #[.int i tk,x] }).get? b=some o:=fun b o hbe hb=>Heap.get?_push_of_some _ (hs₃.extBut b o hbe (hs₂.extBut b o hbe hb))
 have hel:e<h₃.objs.size:=Heap.lt_size he₃
 generalize h₃.push { cls:=.type "tuple",data:=.seq #[.int i tk,x] }=h₄ at he₄ ht₄ hk₄
 rw [hsz] at ht₄ hel ⊢
 show wpAny _ _ (Builtin.SmallTypes.ownedTupleIsFree (.ref e) >>= _) _ _ ⟨h₄,g,d,tk+1,os⟩
 refine wpAny_bind ?_
 unfold Builtin.SmallTypes.ownedTupleIsFree
 refine wpAny_bind (wpAny_field he₄ rfl (x:=.none) rfl (wpAny_pure ?_))
 simp only [if_true]
 refine wpAny_bind (wpAny_rule ?_)
 show wpAny _ _ (field (.ref e) 5 >>= _) _ _ _
 refine wpAny_bind (wpAny_field he₄ rfl (x:=old) rfl ?_)
 show wpAny _ _ (setField (.ref e) 5 x >>= _) _ _ ⟨h₄,g,d,tk+1,os⟩
 refine wpAny_bind (wpAny_setField_rec he₄ (by simp) fun h₅ he₅ hs₅=>?_)
 replace he₅:IsEnum h₅ e it ((i:Int)+1) x:=he₅
 replace hs₅:Heap.SameBut e h₄ h₅:=hs₅
 show wpAny _ _ (Builtin.SmallTypes.ownedTupleHandOut (.ref e) (.ref h₁.objs.size) >>= _) _ _ _
 refine wpAny_bind ?_
 unfold Builtin.SmallTypes.ownedTupleHandOut
 refine wpAny_bind (wpAny_setField_rec he₅ (by simp) fun h₆ he₆ hs₆=>?_)
 replace hs₆:Heap.SameBut e h₅ h₆:=hs₆
 replace he₆:IsEnumOut h₆ e it ((i:Int)+1) x h₁.objs.size:=he₆
 refine wpAny_setField_rec he₆ (by simp) fun h₇ he₇ hs₇=>?_
 replace hs₇:Heap.SameBut e h₆ h₇:=hs₇
 replace he₇:IsEnumOut h₇ e it ((i:Int)+1) x h₁.objs.size:=he₇
 refine wpAny_bind (wpAny_letGo (wpAny_pure ⟨_,rfl,?_⟩))
 have up:∀ b o,b≠e->h₄.get? b=some o->h₇.get? b=some o:=fun b o hb z=>hs₇.extBut b o hb (hs₆.extBut b o hb (hs₅.extBut b o hb z))
 exact hQ h₇ he₇ (up _ _ (Nat.ne_of_gt hel) ht₄) fun b o hb z=>up b o hb (hk₄ b o hb z)
end
abbrev zH1 (h:Heap) (l1:Addr):Heap:=h.push { cls:=.type "tuple_iterator",data:=.fields #[.ref l1,.int 0 0] }
abbrev zH2 (h:Heap) (l1 l2:Addr):Heap:=(zH1 h l1).push { cls:=.type "tuple_iterator",data:=.fields #[.ref l2,.int 0 0] }
abbrev zH3 (h:Heap) (l1 l2:Addr):Heap:=(zH2 h l1 l2).push { cls:=.type "tuple",data:=.seq #[.ref h.objs.size,.ref (zH1 h l1).objs.size] }
abbrev zH4 (h:Heap) (l1 l2:Addr):Heap:=(zH3 h l1 l2).push { cls:=.type "tuple",data:=.seq #[.none,.none] }
abbrev zH5 (h:Heap) (l1 l2:Addr):Heap:=(zH4 h l1 l2).push { cls:=.type "zip",data:=.fields #[.none,.bool false,.bool false,.ref (zH2 h l1 l2).objs.size,.ref (zH3 h l1 l2).objs.size] }
theorem new_zipT (l1 l2:Addr) (xs ys:Array Value) :
 Meets (Builtin.«zip.__new__» ⟨[.type "zip",.ref l1,.ref l2],[]⟩) (fun _ R s=>s.heap.IsTuple l1 xs/\s.heap.IsTuple l2 ys/\
  R (.ok (.ret (.ref (zH4 s.heap l1 l2).objs.size))) { s with heap:=zH5 s.heap l1 l2 }):=
 .of_wp fun prog w A R s h=>by
  obtain ⟨hp,g,d,tk,os⟩:=s;obtain ⟨hl1,hl2,h⟩:=h
  have hsub:=sub_zip
  have hL1:Heap.IsTuple (Shared.heap ⟨hp,g,d,tk,os⟩) l1 xs:=hl1
  have hL2:Heap.IsTuple (Shared.heap ⟨hp.push { cls:=.type "tuple_iterator",data:=.fields #[.ref l1,.int 0 0] },g,d,tk,os⟩) l2 ys:=let ⟨o,e,r⟩:=hl2;⟨o,Heap.get?_push_of_some _ e,r⟩
  wp_walk using wpAny_pyIter_tuple hL1,wpAny_pyIter_tuple hL2
  exact ⟨_,rfl,h⟩
section
variable {prog:Program} {w:World} {A:Around} {E:Value->Shared->Prop} {s:Shared}
theorem call_zipT {l1 l2:Addr} {xs ys:Array Value} {Q:Value->Shared->Prop} (hl1:s.heap.IsTuple l1 xs) (hl2:s.heap.IsTuple l2 ys)
 (h:∀ h',ah1 h' (s.heap.objs.size+4) (s.heap.objs.size+2) (s.heap.objs.size+3) .none false->IsPair h' (s.heap.objs.size+2) (.ref s.heap.objs.size) (.ref (s.heap.objs.size+1))->
  IsPair h' (s.heap.objs.size+3) .none .none->h'.IsTupleIter s.heap.objs.size l1 0->h'.IsTupleIter (s.heap.objs.size+1) l2 0->h'.objs.size=s.heap.objs.size+5->
  (∀ c o,s.heap.get? c=some o->h'.get? c=some o)->Q (.ref (s.heap.objs.size+4)) { s with heap:=h' }) :
 wpAny (model prog w) A (call (.type "zip") [.ref l1,.ref l2]) Q E s:=by
 refine callType_new F.called_zip (by decide) (F.typeCall_zip_2 _ _) (F.newCall_zip_2 _ _) (fun obj=>F.args_object_init_3 obj _ _) F.entry_zip_new
  (new_zipT l1 l2 xs ys) ⟨hl1,hl2,?_⟩
 have z1:(zH1 s.heap l1).objs.size=s.heap.objs.size+1:=Heap.size_push ..
 have z2:(zH2 s.heap l1 l2).objs.size=s.heap.objs.size+2:=by rw [Heap.size_push,z1]
 have z3:(zH3 s.heap l1 l2).objs.size=s.heap.objs.size+3:=by rw [Heap.size_push,z2]
 have z4:(zH4 s.heap l1 l2).objs.size=s.heap.objs.size+4:=by rw [Heap.size_push,z3]
 have z5:(zH5 s.heap l1 l2).objs.size=s.heap.objs.size+5:=by rw [Heap.size_push,z4]
 have g5:(zH5 s.heap l1 l2).get? (zH4 s.heap l1 l2).objs.size=some _:=Heap.get?_push_size _ rfl
 have g4:(zH5 s.heap l1 l2).get? (zH3 s.heap l1 l2).objs.size=some _:=Heap.get?_push_of_some _ (Heap.get?_push_size _ rfl)
 have g3:(zH5 s.heap l1 l2).get? (zH2 s.heap l1 l2).objs.size=some _:=Heap.get?_push_of_some _ (Heap.get?_push_of_some _ (Heap.get?_push_size _ rfl))
 have g2:(zH5 s.heap l1 l2).get? (zH1 s.heap l1).objs.size=some _:=Heap.get?_push_of_some _ (Heap.get?_push_of_some _ (Heap.get?_push_of_some _ (Heap.get?_push_size _ rfl)))
 have g1:(zH5 s.heap l1 l2).get? s.heap.objs.size=some _:=Heap.get?_push_of_some _ (Heap.get?_push_of_some _ (Heap.get?_push_of_some _ (Heap.get?_push_of_some _ (Heap.get?_push_size _ rfl))))
 show _/\_
 rw [z2,z3,z4] at g5
 rw [z1,z2] at g3
 rw [z3] at g4
 rw [z1] at g2
 rw [z4]
 exact ⟨⟨_,g5,rfl⟩,h _ g5 g3 g4 ⟨_,g1,rfl,rfl⟩ ⟨_,g2,rfl,rfl⟩ z5 fun c o x=>
  Heap.get?_push_of_some _ (Heap.get?_push_of_some _ (Heap.get?_push_of_some _ (Heap.get?_push_of_some _ (Heap.get?_push_of_some _ x))))⟩
theorem iter_zipT {z TI TO:Addr} {f0:Value} {b:Bool} {Q:Value->Shared->Prop} (hz:ah1 s.heap z TI TO f0 b) (h:Q (.ref z) s):wpAny (model prog w) A (pyIter (.ref z)) Q E s:=by
 have hT:s.TypeIs (.ref z) "zip":=⟨_,hz,rfl⟩
 refine wpAny_pyIter_slot hT F.slot_zip_iter (wpAny_call_entry F.slot_zip_iter hT F.entry_zip_iter ?_ (F.args_zip_iter_1 _))
 show wpAny _ _ (ret (.ref z)) _ _ s
 exact wpAny_pure ⟨_,rfl,"zip",_,hT,F.slot_zip_next.lookup,h⟩
end
theorem new_enumZ (z TI TO:Addr) :
 Meets (Builtin.«enumerate.__new__» ⟨[.type "enumerate",.ref z],[]⟩) (fun _ R s=>ah1 s.heap z TI TO .none false/\
  R (.ok (.ret (.ref s.heap.objs.size))) { s with heap:=s.heap.push { cls:=.type "enumerate",data:=.fields #[.none,.bool false,.ref z,rawInt 0,.none,.none] } }):=
 .of_wp fun prog w A R s h=>by
  obtain ⟨hp,g,d,tk,os⟩:=s
  obtain ⟨hl,h⟩:=h
  have hsub:=sub_enumerate
  have hL:ah1 (Shared.heap ⟨hp,g,d,tk,os⟩) z TI TO .none false:=hl
  wp_walk using AutoSeq1.wpAny_loadPart' hl
  refine wpAny_stack_any fun st=>wpAny_pure ?_
  split
  ·rename_i c _ _ _ _ _
   cases (c == Value.type "enumerate") <;> (wp_walk using AutoSeq1.wpAny_loadPart' hl,iter_zipT hL;exact ⟨_,rfl,h⟩)
  ·wp_walk using AutoSeq1.wpAny_loadPart' hl,iter_zipT hL
   exact ⟨_,rfl,h⟩
theorem call_enumZ {prog:Program} {w:World} {A:Around} {E:Value->Shared->Prop} {s:Shared} {z TI TO:Addr} {Q:Value->Shared->Prop} (hz:ah1 s.heap z TI TO .none false)
 (h:∀ g,IsEnum g s.heap.objs.size z 0 .none->(∀ b o,s.heap.get? b=some o->g.get? b=some o)->Q (.ref s.heap.objs.size) { s with heap:=g }):wpAny (model prog w) A (call (.type "enumerate") [.ref z]) Q E s:=by
 refine callType_new F.called_enumerate (by decide) (F.typeCall_enumerate_1 _) (F.newCall_enumerate_1 _) (fun obj=>F.args_object_init_2 obj _) F.entry_enumerate_new (new_enumZ z TI TO) ⟨hz,?_⟩
 have he:=Heap.get?_push_size s.heap (o:={ cls:=.type "enumerate",data:=.fields #[.none,.bool false,.ref z,rawInt 0,.none,.none] }) rfl
 exact ⟨⟨_,he,rfl⟩,h _ he fun b o x=>Heap.get?_push_of_some _ x⟩
def Itz (K:PySem.W.Frag) (a1 a2:Addr):It:=
 ⟨fun i H=>∃ xs ys x y,SqT K H a1 xs/\SqT K H a2 ys/\xs[i]?=some x/\ys[i]?=some y,
  fun i H v H'=>∃ q p x y,H q=none/\upd H q (.tup [x,y]) p=none/\v=.ref p/\(∀ xs,SqT K H a1 xs->xs[i]?=some x)/\(∀ ys,SqT K H a2 ys->ys[i]?=some y)/\H'=upd (upd H q (.tup [x,y])) p (.tup [.int i,.ref q]),
  fun i H=>∃ xs ys,SqT K H a1 xs/\SqT K H a2 ys/\(xs.length≤i∨ys.length≤i)⟩
structure EZApart (e z TI TO i1 i2:Addr):Prop where
 ez:e≠z
 eTI:e≠TI
 eTO:e≠TO
 e1:e≠i1
 e2:e≠i2
 TIz:TI≠z
 TOz:TO≠z
 i1z:i1≠z
 i2z:i2≠z
 TITO:TI≠TO
 TIi1:TI≠i1
 TIi2:TI≠i2
 TOi1:TO≠i1
 TOi2:TO≠i2
 i12:i1≠i2
abbrev EZ (e z TI TO i1 i2 a1 a2:Addr) (i:Nat) (h:Heap):Prop:=(∃ old,IsEnum h e z i old)/\ZS h z TI TO i1 i2 a1 a2 i i
theorem EZ.obj {e z TI TO i1 i2 a1 a2:Addr} {i:Nat} {h:Heap} (st:EZ e z TI TO i1 i2 a1 a2 i h):∀ b∈[e,z,TI,TO,i1,i2],∃ o,h.get? b=some o/\∀ v,o.data≠.cell v:=by
 obtain ⟨⟨old,he⟩,⟨f0,b0,hz,_⟩,hTI,⟨x,y,hTO⟩,⟨o1,e1,_,d1⟩,⟨o2,e2,_,d2⟩⟩:=st
 intro b hb
 simp only [List.mem_cons,List.not_mem_nil,or_false] at hb
 rcases hb with rfl|rfl|rfl|rfl|rfl|rfl
 ·exact ⟨_,he,fun v z=>by cases z⟩
 ·exact ⟨_,hz,fun v z=>by cases z⟩
 ·exact ⟨_,hTI,fun v z=>by cases z⟩
 ·exact ⟨_,hTO,fun v z=>by cases z⟩
 ·exact ⟨_,e1,fun v z=>by rw [d1] at z;cases z⟩
 ·exact ⟨_,e2,fun v z=>by rw [d2] at z;cases z⟩
theorem ZS.keep {z TI TO i1 i2 a1 a2:Addr} {i:Nat} {h h':Heap} (st:ZS h z TI TO i1 i2 a1 a2 i i) (k:∀ b∈[z,TI,TO,i1,i2],∀ o,h.get? b=some o->h'.get? b=some o):ZS h' z TI TO i1 i2 a1 a2 i i:=by
 obtain ⟨⟨f0,b0,hz,hf⟩,hTI,⟨x,y,hTO⟩,h1,h2⟩:=st
 exact ⟨⟨f0,b0,k _ (by simp) _ hz,hf⟩,k _ (by simp) _ hTI,⟨x,y,k _ (by simp) _ hTO⟩,h1.at fun o e=>k _ (by simp) _ e,h2.at fun o e=>k _ (by simp) _ e⟩
theorem ZS.obj {z TI TO i1 i2 a1 a2:Addr} {i j:Nat} {h:Heap} (st:ZS h z TI TO i1 i2 a1 a2 i j):∀ b∈[z,TO,i1,i2],∃ o,h.get? b=some o:=by
 obtain ⟨⟨f0,b0,hz,_⟩,hTI,⟨x,y,hTO⟩,⟨o1,e1,_,d1⟩,⟨o2,e2,_,d2⟩⟩:=st
 intro b hb
 simp only [List.mem_cons,List.not_mem_nil,or_false] at hb
 rcases hb with rfl|rfl|rfl|rfl
 ·exact ⟨_,hz⟩
 ·exact ⟨_,hTO⟩
 ·exact ⟨_,e1⟩
 ·exact ⟨_,e2⟩
theorem sqT_ne {X:Cx} {pins:List (Addr×Obj)} {σ:St} {H:Hp} {s:Shared} {a b:Addr} {zs:List V} (I:Inv X pins σ H s) (hq:SqT X.K H a zs) (hb:FpOk X pins H b):a≠b:=by
 rintro rfl
 rcases hq with h|⟨o,its,n,hk,_⟩
 ·rcases h with h|⟨u,h⟩
  ·rw [hb.1] at h;cases h
  ·rw [hb.1] at h;cases h
 ·have e:=I.ok.mod.kin _ _ hk
  rcases hb.2.2.2.1 with z|z
  ·exact I.ok.noex _ _ e z
  ·exact absurd (Heap.lt_size (I.ok.bs _ _ e).1) (Nat.not_lt.mpr z)
theorem Inv.turnedN {X:Cx} {pins:List (Addr×Obj)} {σ:St} {H:Hp} {s:Shared} {h':Heap} {t':Nat} {fp:List Addr} (I:Inv X pins σ H s) (k:∀ b u,b∉fp->s.heap.get? b=some u->h'.get? b=some u) (hf:∀ b∈fp,FpOk X pins H b):Inv X pins σ H { s with heap:=h',toks:=t' }:=by
 have off:∀ b u,H b=some u->b∉fp:=fun b u e z=>by rw [(hf b z).1] at e;cases e
 refine I.step (g':=s.gens) (d':=s.drawn) (ch:=fp) (fun b hb=>?_) (fun b u _ _ hc e _=>k b u hc e) (fun b u _ _ hc e _=>⟨u.slots,k b u hc e⟩) (fun _ _ _ _ n=>n) (fun b u hc e=>⟨u,k b u hc e⟩) (fun _ _ e=>e) (fun _ _ _ e=>e) (fun b ps e=>⟨#[],by rw [e];simp⟩) (fun m hm=>?_) (fun b u e=>?_) I.bare
 ·obtain ⟨_,f1,_,f3,f4,f5⟩:=hf b hb
  exact ⟨f3,f1,f4,f5⟩
 ·obtain ⟨u,es,ep,ho,r⟩:=hm
  exact ⟨u,es,ep,k _ u (fun z=>(hf _ z).2.1 rfl) ho,r⟩
 ·refine (I.hok b u e).stay (fun c v hc q=>k c v ?_ q) (fun c q=>q) fun c xs q=>q
  rcases hc with rfl|z
  ·exact off _ u e
  ·exact off c _ z
theorem FpOk.upd {X:Cx} {pins:List (Addr×Obj)} {H:Hp} {b a:Addr} {o:HO} (h:FpOk X pins H b) (ne:b≠a):FpOk X pins (upd H a o) b:=⟨by rw [a68 ne];exact h.1,h.2⟩
theorem turn_enumZ {P:Program} {w:World} {K:PySem.W.Frag} {elts:List Expr} {k1} {pos:Pos} (a1 a2 e z TI TO i1 i2:Addr) (D:EZApart e z TI TO i1 i2) :
 Turn P w K (.Tuple elts k1 pos) (Itz K a1 a2) [e,z,TI,TO,i1,i2] e (EZ e z TI TO i1 i2 a1 a2) where
 mem:=by simp
 obj:=fun i h st b hb=>st.obj b hb
 keep:=fun i h h' st k=>⟨let ⟨old,h1⟩:=st.1;⟨old,k e (by simp) _ h1⟩,st.2.keep fun b hb o z=>k b (List.mem_cons_of_mem _ hb) o z⟩
 item:=by
  intro X hP hw hK hc i pins s σ H E I hf st hg
  subst hP hw hK
  obtain ⟨xs,ys,x,y,hq1,hq2,hx,hy⟩:=hg
  obtain ⟨its1,rv1,p1,_⟩:=I.tuple hq1
  obtain ⟨its2,rv2,p2,_⟩:=I.tuple hq2
  obtain ⟨u1,hu1,ru1⟩:=rv1.get hx
  obtain ⟨u2,hu2,ru2⟩:=rv2.get hy
  have t1:s.heap.IsTuple a1 its1.toArray:=p1
  have t2:s.heap.IsTuple a2 its2.toArray:=p2
  obtain ⟨⟨old,he⟩,S⟩:=st
  have free:∀ b∈[e,z,TI,TO,i1,i2],H b=none:=fun b hb=>(hf b hb).1
  have apart:∀ {a:Addr} {zs:List V},SqT X.K H a zs->∀ b∈[e,z,TI,TO,i1,i2],a≠b:=fun hq b hb=>sqT_ne I hq (hf b hb)
  have ZA:ZipApart z TI TO i1 i2 a1 a2:=⟨D.TIz,D.TOz,D.i1z,D.i2z,D.TITO,D.TIi1,D.TIi2,D.TOi1,D.TOi2,D.i12,apart hq1 _ (by simp),apart hq1 _ (by simp),apart hq1 _ (by simp),apart hq1 _ (by simp),apart hq2 _ (by simp),apart hq2 _ (by simp),apart hq2 _ (by simp),apart hq2 _ (by simp)⟩
  have hT:s.TypeIs (.ref e) "enumerate":=⟨_,he,rfl⟩
  unfold pyNext
  refine wpAny_bind (wpAny_attempt (wpAny_callSpecial?_slot (name:=Str.ofString "__next__") hT F.slot_enumerate_next (wpAny_call_entry F.slot_enumerate_next hT F.entry_enumerate_next (enum_draw he ?_) (F.args_enumerate_next_1 _))))
  refine nextZ_item ZA S t1 t2 (by simpa using hu1) (by simpa using hu2) fun h₁ S₁ hp₁ hz₁ hk₁=>?_
  have he₁:IsEnum h₁ e z i old:=hk₁ _ _ D.ez D.eTO D.e1 D.e2 he
  refine ⟨h₁,s.toks,rfl,he₁,fun h' ho ht hk'=>wpAny_pure ⟨_,rfl,?_⟩⟩
  have lt:∀ b∈[e,z,TI,TO,i1,i2],b<s.heap.objs.size:=fun b hb=>by
   obtain ⟨o,z',_⟩:=EZ.obj (⟨⟨old,he⟩,S⟩:EZ e z TI TO i1 i2 a1 a2 i s.heap) b hb
   exact Heap.lt_size z'
  have I1:Inv X pins σ (upd H s.heap.objs.size (.tup [x,y])) { s with heap:=h₁,toks:=s.toks }:=by
   refine I.turnLaid (fp:=[z,TO,i1,i2]) (fun b o hb q=>hk₁ b o (fun r=>hb (by simp [r])) (fun r=>hb (by simp [r])) (fun r=>hb (by simp [r])) (fun r=>hb (by simp [r])) q) (fun b hb=>?_) (fun b hb=>hf b ?_) (Nat.le_refl _) ?_
   ·exact S₁.obj b hb
   ·simp at hb ⊢
    rcases hb with h|h|h|h <;> simp [h]
   ·exact ⟨by show 2≤sizeLine;decide,[u1,u2],.cons ru1 (.cons ru2 .nil),⟨_,hp₁,rfl,_,rfl⟩⟩
  have hno1:∀ b∈[e,z,TI,TO,i1,i2],(upd H s.heap.objs.size (.tup [x,y])) b=none:=fun b hb=>by rw [a68 (Nat.ne_of_lt (lt b hb))];exact free b hb
  have hpn:(upd H s.heap.objs.size (.tup [x,y])) h₁.objs.size=none:=I1.hok.fresh (Nat.le_refl _)
  have I2:Inv X pins σ (upd (upd H s.heap.objs.size (.tup [x,y])) h₁.objs.size (.tup [.int i,.ref s.heap.objs.size])) { s with heap:=h',toks:=s.toks+1 }:=by
   refine Inv.turnLaid (s:={ s with heap:=h₁,toks:=s.toks }) (fp:=[e]) I1 (fun b o hb q=>hk' b o (fun r=>hb (by simp [r])) q) (fun b hb=>?_) (fun b hb=>?_) (Nat.le_refl _) ?_
   ·cases List.mem_singleton.mp hb
    exact ⟨_,ho⟩
   ·cases List.mem_singleton.mp hb
    exact (hf e (by simp)).upd (Nat.ne_of_lt (lt e (by simp)))
   ·exact ⟨by show 2≤sizeLine;decide,[.int i s.toks,.ref s.heap.objs.size],.cons ⟨_,rfl⟩ (.cons rfl .nil),⟨_,ht,rfl,_,rfl⟩⟩
  have hno2:∀ b∈[e,z,TI,TO,i1,i2],(upd (upd H s.heap.objs.size (.tup [x,y])) h₁.objs.size (.tup [.int i,.ref s.heap.objs.size])) b=none:=fun b hb=>by
   rw [a68 (Nat.ne_of_lt (Nat.lt_of_lt_of_le (lt b hb) (by rw [hz₁];exact Nat.le_succ _)))]
   exact hno1 b hb
  refine wpAny_letOwnedTupleGo_enum ho fun g2 he2 hs2=>?_
  obtain ⟨f0,f1,f2,f3,f4,f5⟩:=hf e (by simp)
  refine ⟨.ref h₁.objs.size,_,I2.turned (t':=s.toks+1) (fun b o hb q=>(hs2.2 b hb).trans q) (hno2 e (by simp)) f1 f3 f4 f5,rfl,⟨s.heap.objs.size,h₁.objs.size,x,y,I.hok.fresh (Nat.le_refl _),hpn,rfl,fun zs hz=>by rw [I.tuple_inj hz hq1];exact hx,fun zs hz=>by rw [I.tuple_inj hz hq2];exact hy,rfl⟩,⟨⟨_,by simpa using he2⟩,?_⟩,hno2⟩
  refine S₁.keep fun b hb o q=>?_
  have be:b≠e:=by
   simp only [List.mem_cons,List.not_mem_nil,or_false] at hb
   rcases hb with rfl|rfl|rfl|rfl|rfl
   ·exact D.ez.symm
   ·exact D.eTI.symm
   ·exact D.eTO.symm
   ·exact D.e1.symm
   ·exact D.e2.symm
  exact (hs2.2 b be).trans (hk' b o be q)
 done:=by
  intro X hP hw hK hc i pins s σ H E I hf st hg
  subst hP hw hK
  obtain ⟨xs,ys,hq1,hq2,hend⟩:=hg
  obtain ⟨its1,rv1,p1,_⟩:=I.tuple hq1
  obtain ⟨its2,rv2,p2,_⟩:=I.tuple hq2
  have t1:s.heap.IsTuple a1 its1.toArray:=p1
  have t2:s.heap.IsTuple a2 its2.toArray:=p2
  obtain ⟨⟨old,he⟩,S⟩:=st
  have l1:=rv1.length
  have l2:=rv2.length
  have apart:∀ {a:Addr} {zs:List V},SqT X.K H a zs->∀ b∈[e,z,TI,TO,i1,i2],a≠b:=fun hq b hb=>sqT_ne I hq (hf b hb)
  have ZA:ZipApart z TI TO i1 i2 a1 a2:=⟨D.TIz,D.TOz,D.i1z,D.i2z,D.TITO,D.TIi1,D.TIi2,D.TOi1,D.TOi2,D.i12,apart hq1 _ (by simp),apart hq1 _ (by simp),apart hq1 _ (by simp),apart hq1 _ (by simp),apart hq2 _ (by simp),apart hq2 _ (by simp),apart hq2 _ (by simp),apart hq2 _ (by simp)⟩
  have hT:s.TypeIs (.ref e) "enumerate":=⟨_,he,rfl⟩
  unfold pyNext
  refine wpAny_bind (wpAny_attempt (wpAny_callSpecial?_slot (name:=Str.ofString "__next__") hT F.slot_enumerate_next (wpAny_call_entry F.slot_enumerate_next hT F.entry_enumerate_next ?_ (F.args_enumerate_next_1 _))))
  show wpAny _ _ (field (.ref e) 2 >>= _) _ _ _
  refine wpAny_bind (wpAny_field he rfl (x:=.ref z) rfl (wpAny_bind (nextZ_end (A:=X.A.in1) (I.ok.hd hc) ZA S t1 t2 (by simp;omega) fun g x' hk hx'=>?_)))
  obtain ⟨o,ho,hcl⟩:=hx'
  refine wpAny_bind (wpAny_isInstance (T:="StopIteration") (b:=true) ⟨o,ho,hcl⟩ isSubtype_stop (wpAny_pure ⟨rfl,?_⟩))
  exact I.turnedN (fp:=[z,TO,i1,i2]) (fun b o hb q=>hk b o (fun r=>hb (by simp [r])) (fun r=>hb (by simp [r])) (fun r=>hb (by simp [r])) (fun r=>hb (by simp [r])) q) (fun b hb=>hf b (by simp at hb ⊢;rcases hb with h|h|h|h <;> simp [h]))
 self:=fun _ _ _ _ _ st h=>let ⟨_,he⟩:=st.1;wpAny_pyIter_enum he h
variable {X:Cx}
def iEnumZ (K:PySem.W.Frag) (ta:TA):TI:=fun σ H R=>ta σ H fun vs H1=>∃ a1 a2,vs=[.ref a1,.ref a2]/\(∃ xs,SqT K H1 a1 xs)/\(∃ ys,SqT K H1 a2 ys)/\R (Itz K a1 a2) H1
theorem bt_zip:bootBuiltins "zip" = some (.type "zip"):=by decide +kernel
theorem pi_enumZ {elts:List Expr} {k1} {pt:Pos} {a b:Expr} {ta:TA} {p p2 pos pos2:Pos} (hg:Gl X "enumerate") (hm:X.mg "enumerate" = none) (hg2:Gl X "zip") (hm2:X.mg "zip" = none) (ha:PA X [a,b] ta)
 (hs:starEach [a,b] X.env=(false,eval a X.env)::starEach [b] X.env:=by rfl) (hs1:(backTo pos2 (starEach [b] X.env)).any (·.1)=false:=by rfl)
 (hs2:starEach [.Call (.Name "zip" p2) [a,b] [] pos2] X.env=(false,eval (.Call (.Name "zip" p2) [a,b] [] pos2) X.env)::starEach [] X.env:=by rfl) (hs3:(backTo pos (starEach [] X.env)).any (·.1)=false:=by rfl) :
 PI X (.Tuple elts k1 pt) (.Call (.Name "enumerate" p) [.Call (.Name "zip" p2) [a,b] [] pos2] [] pos) (iEnumZ X.K ta):=by
 intro pins s σ H R I h
 refine Call_ (ak4 I hg hm ak9 (PyProof.Rows.callWith_type1 ?_ hs2 hs3))
 rw [hs2]
 show wpAny _ _ (spliced ((false,eval (.Call (.Name "zip" p2) [a,b] [] pos2) X.env)::backTo pos (starEach [] X.env))) _ _ s
 refine Calls.spliced_cons ?_
 refine wpAny_Call_Name_kw (ak4 I hg2 hm2 bt_zip (PyProof.Rows.callWith_type1 (thn (ha pos2 pins s σ H _ I h) fun us s1 ⟨vs,H1,I1,r1,q1⟩=>?_) hs hs1) (by decide) (by decide))
 obtain ⟨a1,a2,rfl,⟨xs,hq1⟩,⟨ys,hq2⟩,q⟩:=q1
 obtain ⟨u1,u2,rfl,e1,e2⟩:=vals2 r1
 cases (show u1=Value.ref a1 from e1)
 cases (show u2=Value.ref a2 from e2)
 obtain ⟨its1,rv1,p1,_⟩:=I1.tuple hq1
 obtain ⟨its2,rv2,p2',_⟩:=I1.tuple hq2
 refine call_zipT (show s1.heap.IsTuple a1 its1.toArray from p1) (show s1.heap.IsTuple a2 its2.toArray from p2') fun h₁ hz hTI hTO h1 h2 hsz hk=>?_
 refine Calls.spliced_nil ?_
 refine call_enumZ (s:={ s1 with heap:=h₁ }) hz fun g he hk2=>wpAny_pyIter_enum he ?_
 have hk3:∀ b o,s1.heap.get? b=some o->g.get? b=some o:=fun b o e=>hk2 _ _ (hk _ _ e)
 have eh:({ s1 with heap:=h₁ }:Shared).heap.objs.size=s1.heap.objs.size+5:=hsz
 refine ⟨s1.heap.objs.size+5,[s1.heap.objs.size+5,s1.heap.objs.size+4,s1.heap.objs.size+2,s1.heap.objs.size+3,s1.heap.objs.size,s1.heap.objs.size+1],_,_,H1,?_,I1.kept (t':=s1.toks) hk3,turn_enumZ a1 a2 _ _ _ _ _ _ ?_,⟨⟨.none,?_⟩,⟨⟨_,_,hk2 _ _ hz,.inl rfl⟩,hk2 _ _ hTI,⟨_,_,hk2 _ _ hTO⟩,h1.at fun o e=>hk2 _ _ e,h2.at fun o e=>hk2 _ _ e⟩⟩,fun b hb=>?_,q⟩
 ·rw [hsz]
 ·constructor <;> (intro z;have z':(_:Nat)=_:=z;omega)
 ·rw [← hsz];exact he
 ·have hb':s1.heap.objs.size≤b:=by
   simp only [List.mem_cons,List.not_mem_nil,or_false] at hb
   rcases hb with rfl|rfl|rfl|rfl|rfl|rfl
   ·exact Nat.le_add_right _ 5
   ·exact Nat.le_add_right _ 4
   ·exact Nat.le_add_right _ 2
   ·exact Nat.le_add_right _ 3
   ·exact Nat.le_refl _
   ·exact Nat.le_add_right _ 1
  exact I1.fpOk hb' (I1.hok.fresh hb')
theorem for_enumZ {K:PySem.W.Frag} {a1 a2:Addr} {xs ys:List V} {g:TG} {tb:TS} {D:Ends} {σ:St} {H:Hp} (Pv:Nat->St->Hp->Prop) (h0:Pv 0 σ H) (hl:∀ i σ H,i≤min xs.length ys.length->Pv i σ H->SqT K H a1 xs/\SqT K H a2 ys)
 (hs:∀ i x y σ H q p,xs[i]?=some x->ys[i]?=some y->Pv i σ H->H q=none->upd H q (.tup [x,y]) p=none->g (.ref p) σ (upd (upd H q (.tup [x,y])) p (.tup [.int i,.ref q])) fun σ2 H2=>tb { D with nx:=Pv (i+1),ct:=Pv (i+1),bk:=D.nx } σ2 H2)
 (hd:∀ σ H,Pv (min xs.length ys.length) σ H->D.nx σ H) :
 ∃ W:Nat->Nat->St->Hp->Prop,(∃ m,W 0 m σ H)/\∀ i m σ H,W i m σ H->((Itz K a1 a2).stop i H/\D.nx σ H)∨((Itz K a1 a2).go i H/\∃ N:St->Hp->Prop,(∀ σ' H',N σ' H'->∃ m',m'<m/\W (i+1) m' σ' H')/\∀ x H',(Itz K a1 a2).yld i H x H'->g x σ H' fun σ2 H2=>tb { D with nx:=N,ct:=N,bk:=D.nx } σ2 H2):=by
 refine ⟨fun i m σ H=>m=min xs.length ys.length-i/\i≤min xs.length ys.length/\Pv i σ H,⟨min xs.length ys.length,by simp,Nat.zero_le _,h0⟩,?_⟩
 rintro i m σ H ⟨rfl,hi,p⟩
 obtain ⟨q1,q2⟩:=hl i σ H hi p
 by_cases hlt:i<min xs.length ys.length
 ·have l1:i<xs.length:=by omega
  have l2:i<ys.length:=by omega
  refine .inr ⟨⟨xs,ys,xs[i],ys[i],q1,q2,by simp [l1],by simp [l2]⟩,Pv (i+1),fun σ' H' z=>⟨min xs.length ys.length-(i+1),by omega,rfl,hlt,z⟩,?_⟩
  rintro x H' ⟨q,p',y1,y2,hn,hn2,rfl,hy1,hy2,rfl⟩
  exact hs i y1 y2 σ H q p' (hy1 xs q1) (hy2 ys q2) p hn hn2
 ·have e:i=min xs.length ys.length:=by omega
  subst e
  exact .inl ⟨⟨xs,ys,q1,q2,by omega⟩,hd σ H p⟩
end L2
namespace L2
open PySem PySem.Spec PyProof.Rows PySem.W PyProof.V
def TabK (K:Frag) (a:Addr) (D:List (Str×PyData)):Prop:=KTD.tabLook KTD.flatLooks (fun b=>K.lookup b) a D=true
def flV:PyData->V
 |.int i=>.int i
 |.str x=>.str x
 |.bool b=>.bl b
 |_=>.non
def tabV (D:List (Str×PyData)) (k:Str):Option V:=(KTD.datumAt k D).map flV
theorem flV_rel {h:Heap}:∀ {d:PyData} {v:Value},Flat v d->RelV (flV d) v:=by
 intro d v x
 cases x ⟨#[],h.life⟩
 all_goals first|exact ⟨_,rfl⟩|rfl|exact absurd (Heap.lt_size (by assumption)) (Nat.not_lt_zero _)
def asD (D:List (Str×PyData)):List (Str×KTD.Dat):=D.map fun p=>(p.1,KTD.Dat.flat p.2)
theorem ai3 {k:Str}:∀ {D:List (Str×PyData)},KTD.datumAt k (asD D)=(KTD.datumAt k D).map KTD.Dat.flat
 |[]=>rfl
 | (x,d)::D=>by
   show (if _ then _ else KTD.datumAt k (asD D))=_
   rw [ai3 (D:=D)]
   show _=(if _ then _ else KTD.datumAt k D).map _
   split <;> rfl
theorem inKeys_asD {k:Str} {D:List (Str×PyData)}:KTD.inKeys k (asD D)=(tabV D k).isSome:=by
 rw [← KTD.isSome_datumAt,ai3]
 unfold tabV
 cases KTD.datumAt k D <;> rfl
section
variable {X:Cx} {pins:List (Addr×Obj)} {σ:St} {H:Hp} {s:Shared} {a:Addr} {D:List (Str×PyData)}
theorem TabK.here (T:TabK X.K a D) (I:Inv X pins σ H s):KTD.Here s.heap s.heap a (asD D):=⟨KTD.TabOf.text (KTD.tab_of_look (fun _ _ h=>KTD.flat_of_looks h) (fun b o e=>I.kIn b o e) T),fun _ _ h=>h⟩
def rInTab (K:Frag) (neg:Bool):R2:=fun x y H Q=>∃ k a D,x=.str k/\y=.ref a/\TabK K a D/\Q (.bl (if neg then !(tabV D k).isSome else (tabV D k).isSome)) H
theorem op_inTab:OpR X (compareOp .In) (rInTab X.K false):=by
 intro pins s σ H x y v u Q I rx ry h
 obtain ⟨k,a,D,rfl,rfl,T,q⟩:=h
 obtain ⟨t,rfl⟩:=rx
 cases (show u=Value.ref a from ry)
 refine KTD.in_text (T.here I) ⟨.bl _,H,I.tok _,rfl,?_⟩
 rw [inKeys_asD]
 exact q
def tTabGet (K:Frag) (td ty:TE):TE:=fun σ H Q=>td σ H fun x H1=>∃ a D,x=.ref a/\TabK K a D/\ty σ H1 fun y H2=>∃ k,y=.str k/\Q ((tabV D k).getD .non) H2
theorem pe_tabGet {o e:Expr} {apos cpos:Pos} {td ty:TE} (ho:PE X o td) (he:PE X e ty) (m:M1 X o "get" apos e cpos):PE X (.Call (.Attribute o "get" apos) [e] [] cpos) (tTabGet X.K td ty):=by
 intro pins s σ H Q I h
 refine wpAny_Call_method m.base m.few m.line PySem.F.plainAttrs_dict PySem.F.slot_dict_get PySem.F.type_dict_get (thn (ho pins s σ H _ I h) fun u s1 ⟨x,H1,I1,rx,a,D,ex,T,q1⟩=>?_)
 subst ex
 obtain rfl:u=Value.ref a:=rx
 refine ⟨(T.here I1).typeIs,(T.here I1).noDict,?_⟩
 rw [m.trees]
 refine Calls.callWith_builtin rfl (Calls.evalArgs_plain (Calls.spliced_cons (thn (he pins s1 σ H1 _ I1 q1) fun iv s2 ⟨y,H2,I2,ry,k,ey,q2⟩=>Calls.spliced_nil ?_)))
 subst ey
 obtain ⟨t,rfl⟩:=ry
 refine call_meetsIn PySem.F.slot_dict_get (T.here I2).typeIs PySem.F.entry_dict_get (PySem.F.args_dict_get_2 _ _) (KTD.meets_get1 (h₀:=s2.heap) (D:=asD D)) ⟨T.here I2,fun d v ha hv=>?_,fun hn=>?_⟩
 ·rw [ai3] at ha
  unfold tabV at q2
  cases hd:KTD.datumAt k D with
  |none=>rw [hd] at ha;cases ha
  | some d'=>
    rw [hd] at ha q2
    cases ha
    exact ⟨_,H2,I2.tok _,flV_rel (h:=s.heap) hv,q2⟩
 ·rw [ai3] at hn
  unfold tabV at q2
  cases hd:KTD.datumAt k D with
  |some d'=>rw [hd] at hn;cases hn
  | none=>
    rw [hd] at q2
    exact ⟨.non,H2,I2.tok _,rfl,q2⟩
end
end L2
namespace L2
open PySem PySem.Spec PyProof.Rows PySem.SeqAt PySem.Builtin PySem.Builtin.Str
section
variable {X:Cx}
end
end L2
namespace L2
open PySem PySem.Spec PyProof.Rows PySem.SeqAt
section
variable {X:Cx}
end
section
variable {X:Cx}
end
end L2
namespace L2
open PySem PySem.Spec PyProof.Rows PySem.SeqAt PySem.Builtin PySem.Builtin.Str
section
variable {X:Cx}
end
section
variable {X:Cx}
end
section
variable {X:Cx}
end
section
variable {X:Cx}
end
theorem comp_rangeF {lo:Int} {n:Nat} {g:TG} {tt:TT} {te:TE} {F:List V->Hp->Prop} {σ0:St} {H0:Hp} (Pv:Nat->List V->St->Hp->Prop) (hn:n≤sizeLine) (h0:Pv 0 [] σ0 H0)
 (hs:∀ i ys σ H,i<n->Pv i ys σ H->∀ N:List V->St->Hp->Prop,(∀ ys' σ' H',Pv (i+1) ys' σ' H'->ys'.length≤ys.length+1->N ys' σ' H')->g (.int (lo+i)) σ H fun σ2 H2=>tt σ2 H2 fun b H3=>if b=true then te σ2 H3 fun y H4=>N (ys++[y]) σ2 H4 else N ys σ2 H3)
 (hd:∀ ys σ H,ys.length≤n->Pv n ys σ H->F ys H) :
 ∃ W:Nat->Nat->List V->St->Hp->Prop,(∃ m,W 0 m [] σ0 H0)/\ar3 (Itr lo n) g tt te F W:=by
 refine ⟨fun i m ys σ H=>m=n-i/\i≤n/\ys.length≤i/\Pv i ys σ H,⟨n,by simp,Nat.zero_le _,Nat.zero_le _,h0⟩,?_⟩
 rintro i m ys σ H ⟨rfl,hi,hl,p⟩
 by_cases hlt:i<n
 ·refine .inr ⟨hlt,by omega,fun x H' y=>?_⟩
  obtain ⟨e,y⟩:=y
  subst e y
  exact hs i ys σ _ hlt p (fun ys' σ' H'=>∃ m',m'<n-i/\m'=n-(i+1)/\i+1≤n/\ys'.length≤i+1/\Pv (i+1) ys' σ' H') fun ys' σ' H' q hl'=>⟨n-(i+1),by omega,rfl,hlt,by omega,q⟩
 ·have e:i=n:=by omega
  subst e
  exact .inl ⟨Nat.le_refl _,hd ys σ H hl p⟩
end L2
namespace L2
open PySem PySem.Spec PyProof.Rows PySem.SeqAt
section
variable {X:Cx}
end
section
variable {X:Cx} {pins:List (Addr×Obj)} {σ:St} {H:Hp} {s:Shared} {h':Heap}
end
end L2
namespace L2
open PySem PySem.Spec PyProof.Rows PySem.SeqAt PySem.Builtin PySem.Builtin.Str
section
variable {X:Cx}
end
section
variable {prog:Program} {w:World} {A:Around} {E:Value->Shared->Prop} {s:Shared} {l:Addr}
end
section
variable {X:Cx} {pos:Pos}
end
end L2
namespace L2
open PySem PySem.Spec PyProof.Rows PySem.SeqAt PySem.Builtin
variable {X:Cx} {pos:Pos}
end L2
namespace L2
open PySem PySem.Spec PyProof.Rows PySem.SeqAt PySem.W Builtin.ObjectAttr
end L2
namespace L2
open PySem PySem.Spec PyProof.Rows PySem.SeqAt PySem.W
variable {X:Cx}
end L2
namespace L2
open PySem PySem.Spec PyProof.Rows
section
variable {X:Cx} {scope:Scope} {own:List Str} {js:List Nat} {N':List Str} {wi wi2:TI} {g g2:TG} {tt tt2:TT} {te:TE} {elt tg iter tg2 iter2:Expr} {ifs ifs2:List Expr} {pos:Pos}
end
section
variable {X:Cx}
end
section
variable {prog:Program} {w:World} {A:Around} {R:Result->Shared->Prop} {I:Addr} {fp wr:List Addr} {n:Nat} {P:Nat->Value->Prop} {St:Nat->Heap->Prop}
end
section
variable {prog:Program} {w:World} {A:Around} {E:Value->Shared->Prop} {s:Shared} {l:Addr} {xs:Array (Int×Tok)}
end
section
variable {X:Cx}
end
section
variable {X:Cx} {scope:Scope} {own:List Str} {js:List Nat} {N':List Str} {wi:TI} {g:TG} {tt:TT} {te:TE} {tf:St->TE} {elt tg iter:Expr} {ifs:List Expr} {pos:Pos}
end
end L2
namespace L2
open PySem PySem.Spec PyProof.Rows PySem.SeqAt
section
variable {prog:Program} {w:World} {A:Around} {E:Value->Shared->Prop} {s:Shared} {l:Addr} {x y z:Value}
end
section
variable {X:Cx} {pos:Pos}
end
section
variable {X:Cx}
end
section
variable {X:Cx} {CX:CXT} {k:Nat} {f C:Addr} {fd:FuncData} {ps ks:List Str} {sp:Sp} {E:XK} {m:Str} {pos apos:Pos} {o:Expr} {kws:List Keyword} {ta:TE} {tk:TA} {g:List Value->List Value->List Value} {gV:List V->List V->List V}
end
section
variable {prog:Program} {w:World} {A:Around} {R:Result->Shared->Prop} {I:Addr} {fp wr:List Addr} {G:Array GenState->Array GenState->Prop} {n:Nat} {P:Nat->Value->Prop} {St:Nat->Shared->Prop}
end
section
open PySem.F
variable {prog:Program} {w:World} {A:Around} {E:Value->Shared->Prop} {s:Shared}
end
section
variable {X:Cx}
end
section
variable {prog:Program} {w:World} {A:Around} {E:Value->Shared->Prop} {s:Shared} {K:Type} [DecidableEq K] {knd:KeyKind prog w K}
end
section
variable {X:Cx}
end
end L2
namespace Cm
open PySem L2
def top (i:Nat):Stmt:=PySem.Challenge.pw_lanescribe_k06_events_that_pass.main.body.getD i (.Pass ⟨0,0,0,0⟩)
def drK (c:Addr) (a r s:Int):List (Key×V):=[(.inr "cells",.ref c),(.inr "at",.int a),(.inr "rest",.int r),(.inr "seed",.int s)]
theorem pat {c:Addr} {a r s x:Int}:putK (drK c a r s) (.inr "at") (.int x)=drK c x r s:=by rfl
theorem prest {c:Addr} {a r s x:Int}:putK (drK c a r s) (.inr "rest") (.int x)=drK c a x s:=by rfl
theorem pseed {c:Addr} {a r s x:Int}:putK (drK c a r s) (.inr "seed") (.int x)=drK c a r x:=by rfl
theorem gcells {H:Hp} {p c:Addr} {a r s:Int} (h:H p=some (.dK (drK c a r s))):DGet H p (.str "cells") (some (.ref c)):=DGet.k (k:=Sum.inr "cells") h
theorem gat {H:Hp} {p c:Addr} {a r s:Int} (h:H p=some (.dK (drK c a r s))):DGet H p (.str "at") (some (.int a)):=DGet.k (k:=Sum.inr "at") h
theorem grest {H:Hp} {p c:Addr} {a r s:Int} (h:H p=some (.dK (drK c a r s))):DGet H p (.str "rest") (some (.int r)):=DGet.k (k:=Sum.inr "rest") h
theorem gseed {H:Hp} {p c:Addr} {a r s:Int} (h:H p=some (.dK (drK c a r s))):DGet H p (.str "seed") (some (.int s)):=DGet.k (k:=Sum.inr "seed") h
abbrev Big:Int:=2305843009213693951
structure Dr (H:Hp) (p c:Addr):Prop where
 ex:∃ (ns:List Int) (a r s:Int),H p=some (.dK (drK c a r s))/\H c=some (.lst (ns.map V.int))/\ns.length≤63/\0≤a/\a≤ns.length/\0≤r/\0≤s/\s<Big
theorem Dr.mono {H H':Hp} {p c:Addr} (d:Dr H p c) (h:Same H H'):Dr H' p c:=by
 obtain ⟨ns,a,r,s,h1,h2,k⟩:=d.ex
 exact ⟨ns,a,r,s,h _ _ h1,h _ _ h2,k⟩
theorem Dr.ne {H:Hp} {p c q:Addr} {o:HO} (d:Dr H p c) (h:H q=some o) (hd:∀ kvs,o≠.dK kvs):q≠p:=by
 obtain ⟨ns,a,r,s,h1,_⟩:=d.ex
 exact ah9 h h1 (hd _)
theorem Dr.put {H:Hp} {p c q:Addr} {o:HO} (d:Dr H p c) (h1:q≠p) (h2:q≠c):Dr (upd H q o) p c:=by
 obtain ⟨ns,a,r,s,e1,e2,k⟩:=d.ex
 exact ⟨ns,a,r,s,by rw [a68 h1.symm];exact e1,by rw [a68 h2.symm];exact e2,k⟩
theorem Dr.cell {H:Hp} {p c:Addr} (d:Dr H p c):∃ xs,H c=some (.lst xs):=by
 obtain ⟨ns,a,r,s,e1,e2,k⟩:=d.ex
 exact ⟨_,e2⟩
theorem Dr.neN {H:Hp} {p c q:Addr} (d:Dr H p c) (h:H q=none):p≠q:=by
 obtain ⟨ns,a,r,s,h1,_⟩:=d.ex
 exact a70 h1 h
structure Txt (K:PySem.W.Frag) (mg:Str->Option Value):Prop where
 len:mg "len" = none
 range:mg "range" = none
 list:mg "list" = none
 tuple:mg "tuple" = none
 str:mg "str" = none
 bool:mg "bool" = none
 int:mg "int" = none
 min:mg "min" = none
 repr:mg "repr" = none
 all:mg "all" = none
 any:mg "any" = none
 isinstance:mg "isinstance" = none
section
variable {P:Program} {w:World} {K:PySem.W.Frag} {mg:Str->Option Value} {base:Heap}
def spBegin (K:PySem.W.Frag):Sp:=fun vs H Q _=>∃ (a:Addr) (ns:List Int),vs=[.ref a]/\SqL K H a (ns.map V.int)/\ns.length≤63/\∀ (p c:Addr) (H':Hp),Dr H' p c->Same H H'->H p=none->Q (.ref p) H'
theorem scB:a77 ["_law_script","_law_seed","_law_cell"] ["_law_script"] (a03 (top 34)):=⟨rfl,rfl,rfl,by decide +kernel,rfl,by decide +kernel,by decide +kernel⟩
theorem ok_begin {f:Addr} {fd:FuncData} (F:Fun K "_law_begin" "_law_begin" (top 34) f fd) (T:Txt K mg):FnOk P w K mg base CX0 1 f fd ["_law_script"] (spBegin K):=by
 refine F.ok scB (fun vs H Q E h=>?_) (fun cdv A outer s H vs Q E hr h=>?_)
 ·obtain ⟨a,ns,rfl,_⟩:=h
  rfl
 ·obtain ⟨a,ns,rfl,hS,hlen,k⟩:=h
  refine ⟨_,(a05 (a79 (i:=1) scB.nd rfl (Or.inl rfl) a04)
   (a05 (ae6 PassesOwn.never rfl (at9 (aa0 sl_list (pv 0) ab1 (ab2 a04))) (a82 (i:=2) scB.nd rfl (Or.inl rfl))
    (a06 (a79 (i:=1) scB.nd rfl (Or.inl rfl) (a81 ah5 (a81 aa6 (a81 aa6 (a81 ao5 (pv 1) a04) (a81 ao5 (pv 2) a04)) a04) a04))))
   (a06 (a69 (pe_disp (al6 a65 (ac0 al0 (by rfl) T.list ar8 (a00 (aa0 sl_list (pv 0) ab1 (ab2 a04)) a01)) (al6 a65 a04 (al6 a65 a04 (al6 a65 (pv 1) pps_nil)))) rfl rfl (List.cons_ne_nil _ _) (by show 4≤15;decide)))))),?_⟩
  have hcut:cutV (ns.map V.int) none (some 63)=ns.map V.int:=by
   show ((ns.map V.int).drop (HT.sIx _ 0 none)).take (HT.sIx _ _ (some ((63:Nat):Int))-HT.sIx _ 0 none)=_
   rw [HT.am1,HT.sIx_nat,List.drop_zero,Nat.sub_zero,List.take_of_length_le]
   rw [List.length_map];omega
  refine ⟨_,rfl,_,rfl,a,_,rfl,hS,fun q hq=>⟨q,rfl,⟨_,SqL.of a02⟩,?_⟩⟩
  rw [hcut]
  have hS':∀ o,SqL K (upd H q o) a (ns.map V.int):=fun o=>(show Same H (upd H q o) from fun b u e=>by rw [a68 (a70 e hq)];exact e).seq hS
  refine for_list (K:=K) (a:=q) (xs:=ns.map V.int) (fun i σ H2=>∃ (z:Int) (v:Option V),σ=[some (.ref a),some (.int z),v]/\0≤z/\z<Big/\H2=upd H q (.lst (ns.map V.int)))
   ⟨20011,none,rfl,by decide,by decide,rfl⟩ (fun i σ H2 _ ⟨_,_,_,_,_,e⟩=>by rw [e];exact SqL.of a02) ?_ ?_
  ·rintro i y σ H2 hi ⟨z,v,rfl,h0,h1,rfl⟩
   obtain ⟨n,-,rfl⟩:=List.mem_map.mp (List.mem_of_getElem? hi)
   refine ⟨_,rfl,_,_,rfl,rfl,.inl ⟨by omega,by simp only [Big] at h1;omega⟩,_,rfl,_,_,rfl,rfl,.inr ⟨by decide,by decide⟩,_,_,rfl,rfl,_,_,rfl,rfl,_,_,rfl,rfl,(by show (0:Int)<2305843009213693951;decide),?_⟩
   exact ⟨_,_,rfl,Int.emod_nonneg _ (by decide),Int.emod_lt_of_pos _ (by decide),rfl⟩
  ·rintro σ H2 ⟨z,v,rfl,h0,h1,rfl⟩
   intro p hp
   have s1:Same H (upd (upd H q (.lst (ns.map V.int))) p (.dK [])):=(Same.new hq).trans (Same.new hp)
   refine ⟨_,rfl,_,rfl,a,_,rfl,s1.seq hS,fun q2 hq2=>⟨q2,_,rfl,.inl (SqL.of a02),fun l hl=>⟨_,rfl,?_,drK l 0 0 z,rfl,by show 4≤15;decide,?_⟩⟩⟩
   ·exact (Same.new hl) _ _ ((Same.new hq2) _ _ a02)
   ·rw [hcut]
    have hpl:(upd (upd (upd (upd H q (.lst (ns.map V.int))) p (.dK [])) q2 (.lst (ns.map V.int))) l (.lst (ns.map V.int))) p=some (.dK []):=(Same.new (by rw [hcut] at hl;exact hl)) _ _ ((Same.new hq2) _ _ a02)
    have hlp:l≠p:=ah9 a02 hpl (by intro z;cases z)
    refine k p l _ ⟨ns,0,0,z,a02,by rw [a68 hlp];exact a02,hlen,by decide,by omega,by decide,h0,h1⟩ ?_ ((Same.new hq).free hp)
    intro b u e
    have e1:=((Same.new (q:=l) (o:=.lst (ns.map V.int)) (by rw [hcut] at hl;exact hl)) _ _ ((Same.new hq2) _ _ (s1 b u e)))
    rw [a68 (a70 ((Same.new hq) b u e) hp)]
    exact e1
def ac9:Sp:=fun vs H Q _=>∃ (p c:Addr) (m:Int),vs=[.ref p,.int m]/\Dr H p c/\0<m/\m<340282366920938463463374607431768211456/\∀ (r:Int) (H':Hp),0≤r->r<m->Dr H' p c->But p H H'->Q (.int r) H'
theorem scP:a77 ["_law_d","_law_many","_law_cell","_law_digit","_law_one"] ["_law_d","_law_many"] (a03 (top 35)):=⟨rfl,rfl,rfl,by decide +kernel,rfl,by decide +kernel,by decide +kernel⟩
theorem ab5 {f:Addr} {fd:FuncData} (F:Fun K "_law_pick" "_law_pick" (top 35) f fd) (T:Txt K mg):FnOk P w K mg base CX0 1 f fd ["_law_d","_law_many"] ac9:=by
 refine F.ok scP (fun vs H Q E h=>?_) (fun cdv A outer s H vs Q E hr h=>?_)
 ·obtain ⟨p,c,m,rfl,_⟩:=h
  rfl
 ·obtain ⟨p,c,m,rfl,D,m0,m1,k⟩:=h
  have hu:=hu_of hr
  refine ⟨_,(a05
 (a84 (PW.pt (ap7 (a67 a85 (ab7 hu (pv 0) a65 (fun _ _=>rfl)) a04 (a72 _)) (ao9 (a67 op_lt (ab7 hu (pv 0) a65 (fun _ _=>rfl)) (a08 a66 (by rfl) T.len a86 (a00 (ab7 hu (pv 0) a65 (fun _ _=>rfl)) a01)) (a72 _))))) (a05
 (a79 (i:=2) scP.nd rfl (Or.inl rfl) (a80 ac6 (ab7 hu (pv 0) a65 (fun _ _=>rfl)) (ab7 hu (pv 0) a65 (fun _ _=>rfl)) (fun _ _=>rfl)))
 (a05
 (am8 hu (pv 0) a65 (a81 aa6 (ab7 hu (pv 0) a65 (fun _ _=>rfl)) a04) rfl)
 (a06
 (a84 (a67 op_ge (pv 2) (a81 op_pow a04 a04) (a72 _)) (a06
 (am8 hu (pv 0) a65 (pv 2) rfl)) (a06
 (am8 hu (pv 0) a65 (a81 ah5 (a81 aa6 (a81 aa6 (a81 ao5 (ab7 hu (pv 0) a65 (fun _ _=>rfl)) a04) (a81 ao5 (pv 2) a04)) a04) a04) rfl)))))) a73)
 (a05
 (a84 (a67 op_gt (ab7 hu (pv 0) a65 (fun _ _=>rfl)) a04 (a72 _)) (a05
 (a79 (i:=3) scP.nd rfl (Or.inl rfl) (a81 ah5 (ab7 hu (pv 0) a65 (fun _ _=>rfl)) (pv 1)))
 (a05
 (am8 hu (pv 0) a65 (a81 op_fdivW (ab7 hu (pv 0) a65 (fun _ _=>rfl)) (pv 1)) rfl)
 (a06
 (a69 (pv 3))))) a73)
 (a05
 (a79 (i:=4) scP.nd rfl (Or.inl rfl) (a81 ah5 (a81 ao5 (ab7 hu (pv 0) a65 (fun _ _=>rfl)) (ab7 hu (pv 0) a65 (fun _ _=>rfl))) a04))
 (a05
 (am8 hu (pv 0) a65 (a81 ah5 (a81 aa6 (a81 aa6 (a81 ao5 (pv 4) a04) (a81 ao5 (ab7 hu (pv 0) a65 (fun _ _=>rfl)) a04)) a04) a04) rfl)
 (a06
 (a69 (a81 ah5 (a81 op_fdiv (ab7 hu (pv 0) a65 (fun _ _=>rfl)) a04) (pv 1)))))))),?_⟩
  obtain ⟨ns,a,r,sd,h1,h2,hl,a0,a1,r0,s0,s1⟩:=D.ex
  have npc:c≠p:=ah9 h2 h1 (by intro z;cases z)
  have small:∀ {x y z:Int},(drK c x y z).length<sizeLine:=fun {x y z}=>aj6 (by show 4≤1000;decide)
  refine al3 (fun σ' H'=>∃ (a' r' sd':Int) (v:Option V),σ'=[some (.ref p),some (.int m),v,none,none]/\H' p=some (.dK (drK c a' r' sd'))/\But p H H'/\0≤a'/\a'≤ns.length/\0≤r'/\0≤sd'/\sd'<Big) ?_ ?_
  ·rintro σ' H1 ⟨a',r',sd',v,rfl,e1,bt,b0,b1,c0,d0,d1⟩
   have hc1:∀ o,(upd H1 p o) c=some (.lst (ns.map V.int)):=fun o=>by rw [a68 npc];exact bt c _ h2 npc
   refine ⟨_,rfl,p,_,rfl,grest e1,_,_,rfl,rfl,_,rfl,?_⟩
   refine ite2 (fun hpos=>?_) (fun _=>?_)
   ·refine ⟨_,rfl,p,_,rfl,grest e1,_,rfl,_,_,rfl,rfl,m0,?_⟩
    refine ⟨_,rfl,p,_,rfl,grest e1,_,rfl,_,_,rfl,rfl,⟨m0,m1⟩,_,rfl,p,_,rfl,DPut.k (k:=Sum.inr "rest") e1 small,_,rfl,?_⟩
    rw [prest]
    exact k _ _ (Int.emod_nonneg _ (by omega)) (Int.emod_lt_of_pos _ m0) ⟨ns,a',r' / m,sd',a02,hc1 _,hl,b0,b1,Int.ediv_nonneg c0 (by omega),d0,d1⟩ (bt.trans But.upd)
   ·have sq:CMul sd' sd':=.inl ⟨by omega,by simp only [Big] at d1;omega⟩
    refine ⟨_,rfl,p,_,rfl,gseed e1,_,rfl,p,_,rfl,gseed e1,_,_,rfl,rfl,sq,_,_,rfl,rfl,(by show (0:Int)<2305843009213693951;decide),?_⟩
    have u0:=Int.emod_nonneg (sd'*sd') (show (2305843009213693951:Int)≠0 by decide)
    have u1:=Int.emod_lt_of_pos (sd'*sd') (show (0:Int)<2305843009213693951 by decide)
    refine ⟨_,rfl,_,_,rfl,rfl,.inr ⟨by decide,by decide⟩,_,rfl,p,_,rfl,gseed e1,_,_,rfl,rfl,.inr ⟨by decide,by decide⟩,_,_,rfl,rfl,_,_,rfl,rfl,_,_,rfl,rfl,(by show (0:Int)<2305843009213693951;decide),_,rfl,p,_,rfl,DPut.k (k:=Sum.inr "seed") e1 small,?_⟩
    rw [pseed]
    generalize hsd:(sd'*sd' % 2305843009213693951*7+sd'*40503+12345) % 2305843009213693951=sn
    have v0:0≤sn:=hsd ▸ Int.emod_nonneg _ (by decide)
    have v1:sn<Big:=hsd ▸ Int.emod_lt_of_pos _ (by decide)
    refine ⟨_,rfl,p,_,rfl,gseed a02,_,_,rfl,rfl,⟨by decide,by decide⟩,_,rfl,_,_,rfl,rfl,m0,?_⟩
    exact k _ _ (Int.emod_nonneg _ (by omega)) (Int.emod_lt_of_pos _ m0) ⟨ns,a',r',sn,a02,hc1 _,hl,b0,b1,c0,v0,v1⟩ (bt.trans But.upd)
  ·intro N hN
   refine ⟨_,rfl,p,_,rfl,grest h1,rfl,_,rfl,?_⟩
   refine ite2 (fun hz=>?_) (fun _=>?_)
   ·refine ⟨_,rfl,p,_,rfl,gat h1,_,rfl,p,_,rfl,gcells h1,c,_,rfl,.inl (SqL.of h2),_,_,rfl,rfl,_,rfl,?_⟩
    rw [List.length_map]
    refine ite2 (fun hlt=>?_) (fun _=>?_)
    ·have hlt:a<ns.length:=of_decide_eq_true hlt
     obtain ⟨z,hz'⟩:∃ z,ns[a.toNat]?=some z:=⟨_,List.getElem?_eq_getElem (by omega)⟩
     have hat:atI (ns.map V.int) a=some (.int z):=by
      have e:(a:Int)=((a.toNat:Nat):Int):=by omega
      rw [e]
      refine a09 ?_
      rw [List.getElem?_map,hz'];rfl
     refine ⟨_,rfl,p,_,rfl,gcells h1,_,rfl,p,_,rfl,gat h1,c,_,_,_,rfl,rfl,SqL.of h2,hat,?_⟩
     refine ⟨_,rfl,p,_,rfl,gat h1,_,_,rfl,rfl,_,rfl,p,_,rfl,DPut.k (k:=Sum.inr "at") h1 small,?_⟩
     rw [pat]
     refine ⟨_,rfl,_,_,rfl,rfl,⟨by decide,by decide,by decide⟩,_,_,rfl,rfl,_,rfl,?_⟩
     refine ite2 (fun hge=>?_) (fun _=>?_)
     ·refine ⟨_,rfl,_,rfl,p,_,rfl,DPut.k (k:=Sum.inr "rest") a02 small,?_⟩
      rw [prest]
      have hge:(10:Int) ^ 18≤z:=of_decide_eq_true hge
      exact hN _ _ ⟨a+1,z,sd,_,rfl,a02,But.upd.trans But.upd,by omega,by omega,by omega,s0,s1⟩
     ·refine ⟨_,rfl,p,_,rfl,gseed a02,_,_,rfl,rfl,.inr ⟨by decide,by decide⟩,_,rfl,_,_,rfl,rfl,.inr ⟨by decide,by decide⟩,_,_,rfl,rfl,_,_,rfl,rfl,_,_,rfl,rfl,(by show (0:Int)<2305843009213693951;decide),_,rfl,p,_,rfl,DPut.k (k:=Sum.inr "seed") a02 small,?_⟩
      rw [pseed]
      exact hN _ _ ⟨a+1,r,_,_,rfl,a02,But.upd.trans But.upd,by omega,by omega,r0,Int.emod_nonneg _ (by decide),Int.emod_lt_of_pos _ (by decide)⟩
    ·exact hN _ _ ⟨a,r,sd,_,rfl,h1,But.refl,a0,a1,r0,s0,s1⟩
   ·exact hN _ _ ⟨a,r,sd,_,rfl,h1,But.refl,a0,a1,r0,s0,s1⟩
end
section
variable {P:Program} {w:World} {K:PySem.W.Frag} {mg:Str->Option Value} {base:Heap}
theorem Dr.dk {H:Hp} {p c:Addr} (d:Dr H p c):∃ kvs,H p=some (.dK kvs):=by
 obtain ⟨ns,a,r,s,h1,_⟩:=d.ex
 exact ⟨_,h1⟩
theorem Dr.seq {H H':Hp} {p c a:Addr} {xs:List V} (d:Dr H p c) (e:But p H H') (h:SqL K H a xs):SqL K H' a xs:=let ⟨_,hp⟩:=d.dk;e.seq hp h
theorem Dr.rep {H H':Hp} {p c:Addr} {v:V} {x:PyData} (d:Dr H p c) (e:But p H H') (h:Rep K H v x):Rep K H' v x:=let ⟨_,hp⟩:=d.dk;h.but e hp
theorem Dr.reps {H H':Hp} {p c:Addr} {v:List V} {x:List PyData} (d:Dr H p c) (e:But p H H') (h:Reps K H v x):Reps K H' v x:=let ⟨_,hp⟩:=d.dk;h.but e hp
theorem Dr.new {H:Hp} {p c q:Addr} {o:HO} (d:Dr H p c) (h:H q=none):Dr (upd H q o) p c:=d.mono (Same.new h)
def spOf (K:PySem.W.Frag):Sp:=fun vs H Q _=>∃ (p c q:Addr) (xs:List V),vs=[.ref p,.ref q]/\Dr H p c/\SqL K H q xs/\xs≠[]/\xs.length≤1000/\∀ (x:V) (H':Hp),x∈xs->Dr H' p c->But p H H'->Q x H'
theorem scO:a77 ["_law_d","_law_things"] ["_law_d","_law_things"] (a03 (top 36)):=⟨rfl,rfl,rfl,by decide +kernel,rfl,by decide +kernel,by decide +kernel⟩
theorem aq8 {f fP:Addr} {fd fdP:FuncData} (F:Fun K "_law_of" "_law_of" (top 36) f fd) (T:Txt K mg) (DP:Def K mg "_law_pick" (top 35) ["_law_d","_law_many"] fP fdP):FnOk P w K mg base CX0 2 f fd ["_law_d","_law_things"] (spOf K):=by
 have GP:FnOk P w K mg base CX0 1 fP fdP ["_law_d","_law_many"] ac9:=ab5 DP.F T
 refine F.ok scO (fun vs H Q E h=>?_) (fun cdv A outer s H vs Q E hr h=>?_)
 ·obtain ⟨p,c,q,xs,rfl,_⟩:=h
  rfl
 ·obtain ⟨p,c,q,xs,rfl,D,hq,hne,hl,k⟩:=h
  refine ⟨_,(a06 (a69 (a80 ac6 (pv 1) (a07 GP hr rfl DP.mg DP.F.kp DP.b .nil a74 (a00 (pv 0) (a00 (a08 a66 (by rfl) T.len a86 (a00 (pv 1) a01)) a01))) (fun _ _=>rfl)))),?_⟩
  have hpos:0<xs.length:=List.length_pos_iff.mpr hne
  refine ⟨_,rfl,_,rfl,_,rfl,q,xs,rfl,(.inl hq),p,c,_,rfl,D,by omega,by omega,fun r H' r0 r1 D' bt=>?_⟩
  obtain ⟨j,rfl⟩:=Int.eq_ofNat_of_zero_le r0
  have hx:j<xs.length:=by omega
  exact ⟨q,xs,_,xs[j],rfl,rfl,D.seq bt hq,a09 (List.getElem?_eq_getElem hx),k _ _ (List.getElem_mem hx) D' bt⟩
def spS (K:PySem.W.Frag):Nat->Sp
 |0=>fun _ _ _ _=>False
 |n+1=>fun vs H Q _=>∃ (x y:V) (d:PyData),vs=[x,y]/\Rep K H x d/\Rep K H y d/\a99 d≤n/\an9 d≤100000/\∀ H':Hp,Same H H'->Q (.bl true) H'
theorem scS:a77 ["_law_found","_law_due"] ["_law_found","_law_due"] (a03 (top 38)):=⟨rfl,rfl,rfl,by decide +kernel,rfl,by decide +kernel,by decide +kernel⟩
theorem bl_true {Q:VK} {v:V} {H:Hp} (h:Q (.bl true) H):Q (.bl (decide (v=v))) H:=by rw [decide_eq_true rfl];exact h
theorem ok_same {f:Addr} {fd:FuncData} (DS:Def K mg "_law_same" (top 38) ["_law_found","_law_due"] f fd) (T:Txt K mg) (n:Nat):FnOk P w K mg base CX0 n f fd ["_law_found","_law_due"] (spS K n):=by
 refine Nat.rec (motive:=fun n=>FnOk P w K mg base CX0 n f fd ["_law_found","_law_due"] (spS K n)) ⟨fun _ _ _ _ h=>h.elim,fun _ _ _ _ _ _ _ _ _ _ _ _ _ h=>h.elim⟩ (fun n GS=>?_) n
 refine DS.F.ok scS (fun vs H Q E h=>?_) (fun cdv A outer s H vs Q E hr h=>?_)
 ·obtain ⟨x,y,d,rfl,_⟩:=h
  rfl
 ·obtain ⟨x,y,d,rfl,hx,hy,hn,hm,k⟩:=h
  refine ⟨_,(a05
 (a84 (a67 op_isN (pv 1) ak7 (a72 _)) (a06
 (a69 (a94 op_isN (pv 0) ak7 (a72 _)))) a73)
 (a05
 (a84 (PW.pt (ap3 (ac8 (a08 a88 (by rfl) T.isinstance a76 (a00 (pv 1) (a00 (ac5 rfl T.bool am6) a01)))) (ai1 (ac8 (a08 a88 (by rfl) T.isinstance a76 (a00 (pv 0) (a00 (ac5 rfl T.bool am6) a01))))))) (a06
 (a69 (aa5 (a08 a88 (by rfl) T.isinstance a76 (a00 (pv 1) (a00 (ac5 rfl T.bool am6) a01))) (aa5 (a08 a88 (by rfl) T.isinstance a76 (a00 (pv 0) (a00 (ac5 rfl T.bool am6) a01))) (ac7 (a94 a85 (pv 0) (pv 1) (a72 _))))))) a73)
 (a05
 (a84 (ac8 (a08 call_isT2 (by rfl) T.isinstance a76 (a00 (pv 1) (a00 (a96 (a00 (ac5 rfl T.int ao2) (a00 (ac5 rfl T.str al5) a01))) a01)))) (a06
 (a69 (aa5 (a08 call_isT2 (by rfl) T.isinstance a76 (a00 (pv 0) (a00 (a96 (a00 (ac5 rfl T.int ao2) (a00 (ac5 rfl T.str al5) a01))) a01))) (aa5 (a94 a85 (a08 a88 (by rfl) T.isinstance a76 (a00 (pv 0) (a00 (ac5 rfl T.int ao2) a01))) (a08 a88 (by rfl) T.isinstance a76 (a00 (pv 1) (a00 (ac5 rfl T.int ao2) a01))) (a72 _)) (ac7 (a94 a85 (pv 0) (pv 1) (a72 _))))))) a73)
 (a05
 (a84 (PW.pt (ap3 (a67 op_ne (a08 a88 (by rfl) T.isinstance a76 (a00 (pv 1) (a00 (ac5 rfl T.list ar8) a01))) (a08 a88 (by rfl) T.isinstance a76 (a00 (pv 0) (a00 (ac5 rfl T.list ar8) a01))) (a72 _)) (ai1 (a67 op_ne (a08 a88 (by rfl) T.isinstance a76 (a00 (pv 1) (a00 (ac5 rfl T.tuple ac2) a01))) (a08 a88 (by rfl) T.isinstance a76 (a00 (pv 0) (a00 (ac5 rfl T.tuple ac2) a01))) (a72 _))))) (a06
 (a69 ar5)) a73)
 (a06
 (a69 (aa5 (a94 a85 (a08 a66 (by rfl) T.len a86 (a00 (pv 0) a01)) (a08 a66 (by rfl) T.len a86 (a00 (pv 1) a01)) (a72 _)) (ac7 (a08 (an6 rfl) (by rfl) T.all bt_all (a00 (ak0 (own:=["_law_k"]) (js:=[0,1]) (N':=["_law_k","_law_found","_law_due"]) (a89.of (osc:=a03 (top 38)) (N:=["_law_found","_law_due"]) rfl rfl ⟨rfl,by decide +kernel,by decide +kernel,by decide +kernel,rfl,by decide +kernel⟩) rfl (ab9 rfl T.range (a00 (a08 a66 (by rfl) T.len a86 (a00 (pv 1) a01)) a01)) (fun _ _ _ _ _=>(a82 (i:=0) (show List.Nodup (["_law_k","_law_found","_law_due"]:List Str) by decide +kernel) rfl (Or.inl rfl) (Or.inr rfl))) (fun _ _ _ _ _=>ad8) (fun _ _ _ _ _=>(a07 GS hr rfl DS.mg DS.F.kp DS.b .nil a74 (a00 (a80 (r:=rIx K) an5 (pv 1) (pv 0) (fun _ _=>rfl)) (a00 (a80 (r:=rIx K) an5 (pv 2) (pv 0) (fun _ _=>rfl)) a01))))) a01)))))))))),?_⟩
  have z2:2≤sizeLine:=by decide
  cases hx with
  | non=>
    cases hy
    refine ⟨_,rfl,rfl,_,rfl,ifT rfl ?_⟩
    exact ⟨_,rfl,rfl,k _ (Same.refl _)⟩
  | bl b=>
    cases hy
    refine ⟨_,rfl,rfl,_,rfl,ifF rfl ?_⟩
    refine ⟨_,rfl,_,_,_,_,rfl,(.bl b),rfl,_,rfl,ifT rfl (ifT rfl ?_)⟩
    exact ⟨_,rfl,_,_,_,_,rfl,(.bl b),rfl,_,rfl,ifT rfl ⟨_,rfl,_,_,_,_,rfl,(.bl b),rfl,_,rfl,ifT rfl ⟨_,rfl,_,rfl,rfl,bl_true (k _ (Same.refl _))⟩⟩⟩
  | int i=>
    cases hy
    refine ⟨_,rfl,rfl,_,rfl,ifF rfl ?_⟩
    refine ⟨_,rfl,_,_,_,_,rfl,(.int i),rfl,_,rfl,ifF rfl ?_⟩
    refine ⟨_,rfl,_,_,_,_,rfl,(.int i),rfl,_,rfl,ifF rfl ?_⟩
    refine ⟨_,rfl,z2,fun p hp=>⟨_,p,_,_,_,_,rfl,a02,.int i,rfl,_,rfl,ifT rfl ?_⟩⟩
    refine ⟨_,rfl,z2,fun p2 hp2=>⟨_,p2,_,_,_,_,rfl,a02,.int i,rfl,_,rfl,ifT rfl ?_⟩⟩
    refine ⟨_,rfl,_,_,_,_,rfl,.int i,rfl,_,rfl,_,_,_,_,rfl,.int i,rfl,rfl,_,rfl,?_⟩
    exact ifT rfl ⟨_,rfl,_,rfl,rfl,bl_true (k _ ((Same.new hp).trans (Same.new hp2)))⟩
  | str z=>
    cases hy
    refine ⟨_,rfl,rfl,_,rfl,ifF rfl ?_⟩
    refine ⟨_,rfl,_,_,_,_,rfl,(.str z),rfl,_,rfl,ifF rfl ?_⟩
    refine ⟨_,rfl,_,_,_,_,rfl,(.str z),rfl,_,rfl,ifF rfl ?_⟩
    refine ⟨_,rfl,z2,fun p hp=>⟨_,p,_,_,_,_,rfl,a02,.str z,rfl,_,rfl,ifT rfl ?_⟩⟩
    refine ⟨_,rfl,z2,fun p2 hp2=>⟨_,p2,_,_,_,_,rfl,a02,.str z,rfl,_,rfl,ifT rfl ?_⟩⟩
    refine ⟨_,rfl,_,_,_,_,rfl,.str z,rfl,_,rfl,_,_,_,_,rfl,.str z,rfl,rfl,_,rfl,?_⟩
    exact ifT rfl ⟨_,rfl,_,rfl,rfl,bl_true (k _ ((Same.new hp).trans (Same.new hp2)))⟩
  | tup g rs=>
    cases hy with
    | tup g2 rs2=>
      rename_i a1 xs1 ds a2 xs2
      refine ⟨_,rfl,rfl,_,rfl,ifF rfl ?_⟩
      refine ⟨_,rfl,_,_,_,_,rfl,(.tup g2 rs2),rfl,_,rfl,ifF rfl ?_⟩
      refine ⟨_,rfl,_,_,_,_,rfl,(.tup g rs),rfl,_,rfl,ifF rfl ?_⟩
      refine ⟨_,rfl,z2,fun p hp=>⟨_,p,_,_,_,_,rfl,a02,Rep.same (.tup g2 rs2) (Same.new hp),rfl,_,rfl,ifF rfl ?_⟩⟩
      have s1:Same H (upd H p (.tup [.ty "int",.ty "str"])):=Same.new hp
      refine ⟨_,rfl,_,_,_,_,rfl,(Rep.same (.tup g2 rs2) s1),rfl,_,rfl,_,_,_,_,rfl,(Rep.same (.tup g rs) s1),rfl,rfl,_,rfl,ifF rfl ?_⟩
      refine ⟨_,rfl,_,_,_,_,rfl,(Rep.same (.tup g2 rs2) s1),rfl,_,rfl,_,_,_,_,rfl,(Rep.same (.tup g rs) s1),rfl,rfl,_,rfl,ifF rfl ?_⟩
      refine ⟨_,rfl,_,_,rfl,.inr (s1.tup g),_,rfl,_,_,rfl,.inr (s1.tup g2),rfl,_,rfl,?_⟩
      have l1:=rs.length
      have l2:=rs2.length
      have hm':xs2.length≤100000:=by simp only [an9] at hm;omega
      have hl:xs1.length=xs2.length:=by omega
      generalize upd H p (.tup [.ty "int",.ty "str"])=H1 at s1 ⊢
      refine ifT (by rw [hl];simp) ?_
      obtain ⟨n,rfl⟩:∃ n',n=n'+1:=⟨n-1,by simp only [a99] at hn;omega⟩
      refine ⟨_,rfl,_,_,rfl,.inr (s1.tup g2),_,rfl,by omega,by omega,?_⟩
      refine ak3 (n:=xs2.length) (fun i ys σ' H'=>∃ (v:Option V),ys=(List.replicate i true).map V.bl/\σ'=[v,some _,some _]/\Same H1 H') (by exact Nat.le_trans hm' (by decide)) ⟨none,rfl,rfl,Same.refl _⟩ ?_ ?_
      ·rintro i ys σ' H' hi hys ⟨v,rfl,rfl,s2⟩ N hN
       obtain ⟨d1,e1,r1⟩:=rs.get' (i:=i) (x:=xs1[i]) (List.getElem?_eq_getElem (by omega))
       obtain ⟨d2,e2,r2⟩:=rs2.get' (i:=i) (x:=xs2[i]) (List.getElem?_eq_getElem hi)
       rw [e1] at e2
       cases e2
       have m1:=List.mem_of_getElem? e1
       have q1:=al8 m1
       have q2:=as5 m1
       have at1:atI xs1 (0+(i:Int))=some xs1[i]:=by rw [Int.zero_add];exact a09 (List.getElem?_eq_getElem (by omega))
       have at2:atI xs2 (0+(i:Int))=some xs2[i]:=by rw [Int.zero_add];exact a09 (List.getElem?_eq_getElem hi)
       refine ⟨_,rfl,_,rfl,.inr (.inl ⟨_,_,_,_,rfl,rfl,(s1.trans s2).tup g,at1,?_⟩)⟩
       refine ⟨_,rfl,_,rfl,.inr (.inl ⟨_,_,_,_,rfl,rfl,(s1.trans s2).tup g2,at2,?_⟩)⟩
       refine ⟨_,_,d1,rfl,r1.same (s1.trans s2),r2.same (s1.trans s2),?_,?_,fun H'' s3=>?_⟩
       ·simp only [a99] at hn;omega
       ·simp only [an9] at hm;omega
       exact hN _ _ _ (by simp) ⟨_,by rw [List.replicate_succ',List.map_append];rfl,rfl,s2.trans s3⟩
      ·rintro ys σ' H' hys ⟨v,rfl,rfl,s2⟩
       refine ⟨by rw [List.length_map,List.length_replicate];exact Nat.le_trans hm' (by decide),fun q hq=>⟨q,_,rfl,SqL.of a02,?_⟩⟩
       show Q (.bl ((List.replicate xs2.length true).all id)) _
       rw [show (List.replicate xs2.length true).all id=true by simp]
       exact k _ ((s1.trans s2).trans (Same.new hq))
  | lst g rs=>
    cases hy with
    | lst g2 rs2=>
      rename_i a1 xs1 ds a2 xs2
      refine ⟨_,rfl,rfl,_,rfl,ifF rfl ?_⟩
      refine ⟨_,rfl,_,_,_,_,rfl,(.lst g2 rs2),rfl,_,rfl,ifF rfl ?_⟩
      refine ⟨_,rfl,_,_,_,_,rfl,(.lst g rs),rfl,_,rfl,ifF rfl ?_⟩
      refine ⟨_,rfl,z2,fun p hp=>⟨_,p,_,_,_,_,rfl,a02,Rep.same (.lst g2 rs2) (Same.new hp),rfl,_,rfl,ifF rfl ?_⟩⟩
      have s1:Same H (upd H p (.tup [.ty "int",.ty "str"])):=Same.new hp
      refine ⟨_,rfl,_,_,_,_,rfl,(Rep.same (.lst g2 rs2) s1),rfl,_,rfl,_,_,_,_,rfl,(Rep.same (.lst g rs) s1),rfl,rfl,_,rfl,ifF rfl ?_⟩
      refine ⟨_,rfl,_,_,_,_,rfl,(Rep.same (.lst g2 rs2) s1),rfl,_,rfl,_,_,_,_,rfl,(Rep.same (.lst g rs) s1),rfl,rfl,_,rfl,ifF rfl ?_⟩
      refine ⟨_,rfl,_,_,rfl,.inl (s1.seq g),_,rfl,_,_,rfl,.inl (s1.seq g2),rfl,_,rfl,?_⟩
      have l1:=rs.length
      have l2:=rs2.length
      have hm':xs2.length≤100000:=by simp only [an9] at hm;omega
      have hl:xs1.length=xs2.length:=by omega
      generalize upd H p (.tup [.ty "int",.ty "str"])=H1 at s1 ⊢
      refine ifT (by rw [hl];simp) ?_
      obtain ⟨n,rfl⟩:∃ n',n=n'+1:=⟨n-1,by simp only [a99] at hn;omega⟩
      refine ⟨_,rfl,_,_,rfl,.inl (s1.seq g2),_,rfl,by omega,by omega,?_⟩
      refine ak3 (n:=xs2.length) (fun i ys σ' H'=>∃ (v:Option V),ys=(List.replicate i true).map V.bl/\σ'=[v,some _,some _]/\Same H1 H') (by exact Nat.le_trans hm' (by decide)) ⟨none,rfl,rfl,Same.refl _⟩ ?_ ?_
      ·rintro i ys σ' H' hi hys ⟨v,rfl,rfl,s2⟩ N hN
       obtain ⟨d1,e1,r1⟩:=rs.get' (i:=i) (x:=xs1[i]) (List.getElem?_eq_getElem (by omega))
       obtain ⟨d2,e2,r2⟩:=rs2.get' (i:=i) (x:=xs2[i]) (List.getElem?_eq_getElem hi)
       rw [e1] at e2
       cases e2
       have m1:=List.mem_of_getElem? e1
       have q1:=al8 m1
       have q2:=as5 m1
       have at1:atI xs1 (0+(i:Int))=some xs1[i]:=by rw [Int.zero_add];exact a09 (List.getElem?_eq_getElem (by omega))
       have at2:atI xs2 (0+(i:Int))=some xs2[i]:=by rw [Int.zero_add];exact a09 (List.getElem?_eq_getElem hi)
       refine ⟨_,rfl,_,rfl,.inl ⟨_,_,_,_,rfl,rfl,(s1.trans s2).seq g,at1,?_⟩⟩
       refine ⟨_,rfl,_,rfl,.inl ⟨_,_,_,_,rfl,rfl,(s1.trans s2).seq g2,at2,?_⟩⟩
       refine ⟨_,_,d1,rfl,r1.same (s1.trans s2),r2.same (s1.trans s2),?_,?_,fun H'' s3=>?_⟩
       ·simp only [a99] at hn;omega
       ·simp only [an9] at hm;omega
       exact hN _ _ _ (by simp) ⟨_,by rw [List.replicate_succ',List.map_append];rfl,rfl,s2.trans s3⟩
      ·rintro ys σ' H' hys ⟨v,rfl,rfl,s2⟩
       refine ⟨by rw [List.length_map,List.length_replicate];exact Nat.le_trans hm' (by decide),fun q hq=>⟨q,_,rfl,SqL.of a02,?_⟩⟩
       show Q (.bl ((List.replicate xs2.length true).all id)) _
       rw [show (List.replicate xs2.length true).all id=true by simp]
       exact k _ ((s1.trans s2).trans (Same.new hq))
end
def Lc (x:Str):Prop:=∀ c∈x.cps.toList,97≤c/\c≤122
structure Nm (x:Str):Prop where
 lo:1≤x.length
 hi:x.length≤8
 lc:Lc x
theorem Lc.app {x y:Str} (a:Lc x) (b:Lc y):Lc (x++y):=fun c hc=>by
 rw [Str.cps_append,Array.toList_append,List.mem_append] at hc
 exact hc.elim (a c) (b c)
theorem as3 (sep:Str) (hs:sep.cps.toList=[]):∀ ys:List Str,(Str.join sep ys).cps.toList=(ys.map (·.cps.toList)).flatten
 |[]=>rfl
 |[x]=>by show x.cps.toList=_;simp
 | x::y::r=>by
   show (x++sep++Str.join sep (y::r)).cps.toList=_
   rw [Str.cps_append,Array.toList_append,Str.cps_append,Array.toList_append,hs,List.append_nil,as3 sep hs (y::r),List.map_cons (l:=y::r),List.flatten_cons]
theorem txt_join (sep:Str) (ys:List Str):PySem.Txt.join sep ys=Str.join sep ys:=by
 show PySem.Builtin.Str.glued sep ys=_
 rw [PySem.StrLaws.glued_eq_join]
theorem len_cps (x:Str):x.length=x.cps.toList.length:=by simp [Str.length]
section
variable {P:Program} {w:World} {K:PySem.W.Frag} {mg:Str->Option Value} {base:Heap}
def aq2:Sp:=fun vs H Q _=>∃ (p dc:Addr),vs=[.ref p]/\Dr H p dc/\∀ (x:Str) (H':Hp),Nm x->Dr H' p dc->But p H H'->Q (.str x) H'
theorem scW:a77 ["_law_d","_law_letters","_law_first","_law_size","_law_some"] ["_law_d"] (a03 (top 39)):=⟨rfl,rfl,rfl,by decide +kernel,rfl,by decide +kernel,by decide +kernel⟩
theorem letters_at {i:Int} {c:Nat} (h:atI ("abcdefghijklmnopqrstuvwxyz" : Str).cps.toList i=some c):97≤c/\c≤122:=by
 have:c∈("abcdefghijklmnopqrstuvwxyz" : Str).cps.toList:=by
  unfold atI at h
  obtain ⟨j,_,e⟩:=Option.bind_eq_some_iff.mp h
  exact List.mem_of_getElem? e
 have all:∀ c∈("abcdefghijklmnopqrstuvwxyz" : Str).cps.toList,97≤c/\c≤122:=by decide +kernel
 exact all c this
theorem ok_word {f fP fO:Addr} {fd fdP fdO:FuncData} (F:Fun K "_law_word" "_law_word" (top 39) f fd) (T:Txt K mg) (DP:Def K mg "_law_pick" (top 35) ["_law_d","_law_many"] fP fdP) (DO:Def K mg "_law_of" (top 36) ["_law_d","_law_things"] fO fdO) :
 FnOk P w K mg base CX0 3 f fd ["_law_d"] aq2:=by
 have GP:FnOk P w K mg base CX0 1 fP fdP ["_law_d","_law_many"] ac9:=ab5 DP.F T
 have GO:FnOk P w K mg base CX0 2 fO fdO ["_law_d","_law_things"] (spOf K):=aq8 DO.F T DP
 refine F.ok scW (fun vs H Q E h=>?_) (fun cdv A outer s H vs Q E hr h=>?_)
 ·obtain ⟨p,dc,rfl,_⟩:=h
  rfl
 ·obtain ⟨p,dc,rfl,D,k⟩:=h
  have hr1:Room 1 _:=hr.mono (by decide)
  refine ⟨_,(a05
 (a79 (i:=1) scW.nd rfl (Or.inr rfl) a65)
 (a05
 (a79 (i:=2) scW.nd rfl (Or.inl rfl) (a07 GO hr rfl DO.mg DO.F.kp DO.b .nil a74 (a00 (pv 0) (a00 (a97 (a00 a65 (a00 a65 (a00 a65 (a00 a65 (a00 a65 a01)))))) a01))))
 (a05
 (a79 (i:=3) scW.nd rfl (Or.inl rfl) (a81 aa6 a04 (a07 GP hr1 rfl DP.mg DP.F.kp DP.b .nil a74 (a00 (pv 0) (a00 (a81 ae0 a04 (a08 ag1 (by rfl) T.len a86 (a00 (pv 2) a01))) a01)))))
 (a05
 (a79 (i:=4) scW.nd rfl (Or.inl rfl) (pe_bm PySem.F.plainAttrs_str PySem.F.slot_str_join PySem.F.type_str_join mt_join a65 (a00 (ak0 (own:=["_law_k"]) (js:=[1,0]) (N':=["_law_k","_law_letters","_law_d"]) (a89.of (osc:=a03 (top 39)) (N:=["_law_d","_law_letters","_law_first","_law_size","_law_some"]) rfl rfl ⟨rfl,by decide +kernel,by decide +kernel,by decide +kernel,rfl,by decide +kernel⟩) rfl (ab9 rfl T.range (a00 (pv 3) a01)) (fun _ _ _ _ _=>(a82 (i:=0) (show List.Nodup (["_law_k","_law_letters","_law_d"]:List Str) by decide +kernel) rfl (Or.inl rfl) (Or.inr rfl))) (fun _ _ _ _ _=>ad8) (fun _ _ _ _ _=>(a80 (r:=rIxS) ix_str (pv 1) (a07 GP hr1 rfl DP.mg DP.F.kp DP.b .nil a74 (a00 (pv 2) (a00 a04 a01))) (fun _ _=>rfl)))) a01)))
 (a06
 (a69 (a80 ac6 (a97 (a00 (a81 a98 (pv 2) (pv 4)) (a00 (a81 a98 (pv 4) (pv 2)) a01))) (a07 GP hr1 rfl DP.mg DP.F.kp DP.b .nil a74 (a00 (pv 0) (a00 a04 a01))) (fun _ _=>rfl)))))))),?_⟩
  refine ⟨_,rfl,(show 5≤sizeLine by decide),fun q hq=>?_⟩
  refine ⟨p,dc,q,_,rfl,D.new hq,SqL.of a02,by simp,by simp,fun x H1 hx D1 b1=>?_⟩
  obtain ⟨z,rfl,hz,lz⟩:∃ z:Str,x=.str z/\z.length≤7/\Lc z:=by
   simp only [List.mem_cons,List.not_mem_nil,or_false] at hx
   rcases hx with rfl|rfl|rfl|rfl|rfl
   all_goals exact ⟨_,rfl,by decide +kernel,by unfold Lc;decide +kernel⟩
  refine ⟨_,rfl,_,rfl,z,rfl,Nat.le_trans hz (by decide),_,_,rfl,rfl,p,dc,_,rfl,D1,by omega,by omega,fun r H2 r0 r1 D2 b2=>?_⟩
  refine ⟨_,_,rfl,rfl,?_⟩
  refine ⟨rfl,_,rfl,_,rfl,by omega,by omega,?_⟩
  refine ak3 (n:=(1+r).toNat) (fun i ys σ' H'=>∃ (cs:List Str) (v:Option V),ys=cs.map V.str/\σ'=[v,some (.str "abcdefghijklmnopqrstuvwxyz"),some (.ref p)]/\Dr H' p dc/\But p H2 H'/\∀ c∈cs,c.length=1/\Lc c) (Nat.le_trans (show (1+r).toNat≤8 by omega) (by decide)) ⟨[],none,rfl,rfl,D2,But.refl,fun _ h=>nomatch h⟩ ?_ ?_
  ·rintro i ys σ' H' hi hys ⟨cs,v,rfl,rfl,D3,b3,hc⟩ N hN
   refine ⟨_,rfl,_,rfl,p,dc,_,rfl,D3,by decide,by decide,fun r' H4 r0' r1' D4 b4=>?_⟩
   obtain ⟨j,rfl⟩:=Int.eq_ofNat_of_zero_le r0'
   obtain ⟨c,hcj⟩:∃ c,("abcdefghijklmnopqrstuvwxyz" : Str).cps.toList[j]?=some c:=⟨_,List.getElem?_eq_getElem (by show j<26;omega)⟩
   have hat:atI ("abcdefghijklmnopqrstuvwxyz" : Str).cps.toList (j:Int)=some c:=a09 hcj
   refine ⟨_,_,c,rfl,rfl,(show 26≤sizeLine by decide),hat,?_⟩
   refine hN _ _ _ (by simpa using hys) ⟨cs++[⟨#[c]⟩],_,by simp,rfl,D4,b3.trans b4,fun c' hc'=>?_⟩
   rcases List.mem_append.mp hc' with hc'|hc'
   ·exact hc c' hc'
   ·obtain rfl:c'=⟨#[c]⟩:=by simpa using hc'
    refine ⟨rfl,fun x hx=>?_⟩
    obtain rfl:x=c:=by simpa using hx
    exact letters_at hat
  ·rintro ys σ' H' hys ⟨cs,v,rfl,rfl,D3,b3,hc⟩
   rw [List.length_map] at hys
   refine ⟨by rw [List.length_map,hys];exact Nat.le_trans (show (1+r).toNat≤8 by omega) (by decide),fun q2 hq2=>?_⟩
   have hsum:(cs.map (·.length)).sum=cs.length:=by
    clear hys
    induction cs with
    |nil=>rfl
    |cons c t ih=>rw [List.map_cons,List.sum_cons,ih fun d hd=>hc d (List.mem_cons_of_mem _ hd),(hc c List.mem_cons_self).1,List.length_cons,Nat.add_comm]
   refine ⟨_,q2,cs,rfl,rfl,SqL.of a02,by rw [hsum,show (Str.ofString "").length=0 from rfl];omega,?_⟩
   rw [txt_join]
   have jl:(Str.join (Str.ofString "") cs).length=cs.length:=by
    rw [len_cps,as3 _ rfl,List.length_flatten,List.map_map,← hsum]
    congr 1
   have jc:Lc (Str.join (Str.ofString "") cs):=fun x hx=>by
    rw [as3 _ rfl] at hx
    obtain ⟨l,hl,hxl⟩:=List.mem_flatten.mp hx
    obtain ⟨c,hcm,rfl⟩:=List.mem_map.mp hl
    exact (hc c hcm).2 x hxl
   generalize Str.join (Str.ofString "") cs=js at jl jc
   have hj8:js.length+z.length≤8/\1≤js.length:=by omega
   refine ⟨_,rfl,_,rfl,_,_,rfl,rfl,Nat.le_trans (show z.length+js.length≤8 by omega) (by decide),_,rfl,_,rfl,_,_,rfl,rfl,Nat.le_trans (show js.length+z.length≤8 by omega) (by decide),(show 2≤sizeLine by decide),fun q3 hq3=>?_⟩
   have D4:Dr _ p dc:=(D3.new (o:=.lst (cs.map V.str)) hq2).new (o:=.lst [.str (z++js),.str (js++z)]) hq3
   refine ⟨_,rfl,p,dc,_,rfl,D4,by decide,by decide,fun r' H5 r0' r1' D5 b5=>?_⟩
   have nm1:Nm (z++js):=⟨by rw [Str.length_append];omega,by rw [Str.length_append];omega,lz.app jc⟩
   have nm2:Nm (js++z):=⟨by rw [Str.length_append];omega,by rw [Str.length_append];omega,jc.app lz⟩
   have bt:But p H H5:=((((But.new hq).trans b1).trans b2).trans b3).trans (((But.new hq2).trans (But.new hq3)).trans b5)
   have hq5:SqL K H5 q3 [.str (z++js),.str (js++z)]:=D4.seq b5 (SqL.of a02)
   by_cases h0:r'=0
   ·subst h0
    exact ⟨_,_,_,_,rfl,rfl,hq5,rfl,k _ _ nm1 D5 bt⟩
   ·obtain rfl:r'=1:=by omega
    exact ⟨_,_,_,_,rfl,rfl,hq5,rfl,k _ _ nm2 D5 bt⟩
def spWords (K:PySem.W.Frag):Sp:=fun vs H Q _=>∃ (p dc:Addr) (m:Int),vs=[.ref p,.int m]/\Dr H p dc/\0≤m/\m≤60/\∀ (q:Addr) (ys:List Str) (H':Hp),H' q=some (.lst (ys.map V.str))->H q=none->(ys.length:Int)=m->(∀ y∈ys,Nm y)->ys.Nodup->Dr H' p dc->But p H H'->Q (.ref q) H'
theorem scWs:a77 ["_law_d","_law_many","_law_found","_law_k","_law_word_here","_law_step"] ["_law_d","_law_many"] (a03 (top 40)):=⟨rfl,rfl,rfl,by decide +kernel,rfl,by decide +kernel,by decide +kernel⟩
def wd (t:Nat):Str:=⟨#[97+t % 8,113+t / 8 % 8]⟩
theorem wd_nm (t:Nat):Nm (wd t):=⟨by show 1≤2;decide,by show 2≤8;decide,fun c hc=>by
 have:c=97+t % 8∨c=113+t / 8 % 8:=by simpa [wd] using hc
 omega⟩
theorem wd_inj {k s s':Nat} (h:wd (k+s)=wd (k+s')) (h1:s<64) (h2:s'<64):s=s':=by
 have e:(#[97+(k+s) % 8,113+(k+s) / 8 % 8]:Array Nat)=#[97+(k+s') % 8,113+(k+s') / 8 % 8]:=congrArg Str.cps h
 have e1:97+(k+s) % 8=97+(k+s') % 8/\113+(k+s) / 8 % 8=113+(k+s') / 8 % 8:=by simpa using congrArg Array.toList e
 omega
theorem sub_len {α:Type} [DecidableEq α]:∀ {l ys:List α},l.Nodup->(∀ x∈l,x∈ys)->l.length≤ys.length
 |[],_,_,_=>Nat.zero_le _
 | a::l,ys,nd,hs=>by
   obtain ⟨n1,n2⟩:=List.nodup_cons.mp nd
   have ha:=hs a List.mem_cons_self
   have q:=sub_len (ys:=ys.erase a) n2 fun x hx=>(List.mem_erase_of_ne (by intro z;exact n1 (z ▸ hx))).mpr (hs x (List.mem_cons_of_mem _ hx))
   rw [List.length_erase_of_mem ha] at q
   have:=List.length_pos_of_mem ha
   rw [List.length_cons];omega
theorem nd_map {α β:Type} {f:α->β}:∀ {l:List α},l.Nodup->(∀ a∈l,∀ b∈l,f a=f b->a=b)->(l.map f).Nodup
 |[],_,_=>List.nodup_nil
 | a::l,nd,h=>by
   obtain ⟨n1,n2⟩:=List.nodup_cons.mp nd
   rw [List.map_cons]
   refine List.nodup_cons.mpr ⟨fun m=>?_,nd_map n2 fun x hx y hy=>h x (List.mem_cons_of_mem _ hx) y (List.mem_cons_of_mem _ hy)⟩
   obtain ⟨b,hb,e⟩:=List.mem_map.mp m
   exact n1 (h b (List.mem_cons_of_mem _ hb) a List.mem_cons_self e ▸ hb)
theorem wd_new {k:Nat} {ys:List Str} (hl:ys.length<64) (h:∀ s,s<64->wd (k+s)∈ys):False:=by
 have nd:((List.range 64).map fun s=>wd (k+s)).Nodup:=nd_map List.nodup_range fun a ha b hb e=>wd_inj e (List.mem_range.mp ha) (List.mem_range.mp hb)
 have q:=sub_len nd fun x hx=>by
  obtain ⟨s,hs,rfl⟩:=List.mem_map.mp hx
  exact h s (List.mem_range.mp hs)
 rw [List.length_map,List.length_range] at q
 omega
theorem ok_words {f fP fO fW:Addr} {fd fdP fdO fdW:FuncData} (F:Fun K "_law_words" "_law_words" (top 40) f fd) (T:Txt K mg) (DP:Def K mg "_law_pick" (top 35) ["_law_d","_law_many"] fP fdP) (DO:Def K mg "_law_of" (top 36) ["_law_d","_law_things"] fO fdO)
 (DW:Def K mg "_law_word" (top 39) ["_law_d"] fW fdW):FnOk P w K mg base CX0 4 f fd ["_law_d","_law_many"] (spWords K):=by
 have GW:FnOk P w K mg base CX0 3 fW fdW ["_law_d"] aq2:=ok_word DW.F T DP DO
 refine F.ok scWs (fun vs H Q E h=>?_) (fun cdv A outer s H vs Q E hr h=>?_)
 ·obtain ⟨p,dc,m,rfl,_⟩:=h
  rfl
 ·obtain ⟨p,dc,m,rfl,D,m0,m1,k⟩:=h
  refine ⟨_,(a05
 (a79 (i:=2) scWs.nd rfl (Or.inl rfl) (a97 a01))
 (a05
 (ae6 PassesOwn.never rfl (ab9 rfl T.range (a00 (pv 1) a01)) (a82 (i:=3) scWs.nd rfl (Or.inl rfl)) (a05
 (a79 (i:=4) scWs.nd rfl (Or.inl rfl) (a07 GW hr rfl DW.mg DW.F.kp DW.b .nil a74 (a00 (pv 0) a01)))
 (a05
 (ae6 PassesOwn.never rfl (ab9 rfl T.range (a00 a04 a01)) (a82 (i:=5) scWs.nd rfl (Or.inl rfl)) (a06
 (a84 (a67 ad2 (pv 4) (pv 2) rfl) (a06
 (a79 (i:=4) scWs.nd rfl (Or.inl rfl) (a81 a98 (a80 ix_str a65 (a81 ah5 (a81 aa6 (pv 3) (pv 5)) a04) (fun _ _=>rfl)) (a80 ix_str a65 (a81 ah5 (a81 op_fdiv (a81 aa6 (pv 3) (pv 5)) a04) a04) (fun _ _=>rfl))))) a73)))
 (a06
 (ab3 (pe_bm PySem.F.plainAttrs_list PySem.F.slot_list_append PySem.F.type_list_append ai9 (pv 2) (a00 (pv 4) a01)))))))
 (a06
 (a69 (pv 2))))),?_⟩
  refine ⟨(show 0≤sizeLine by decide),fun q hq=>?_⟩
  refine ⟨_,rfl,m,rfl,by omega,by omega,?_⟩
  refine ae2 (n:=m.toNat) (fun i σ H1=>∃ (ys:List Str) (a b c:Option V),σ=[some (.ref p),some (.int m),some (.ref q),a,b,c]/\H1 q=some (.lst (ys.map V.str))/\ys.length=i/\(∀ y∈ys,Nm y)/\ys.Nodup/\Dr H1 p dc/\But p H H1)
   ⟨[],none,none,none,rfl,a02,rfl,(fun _ h=>by cases h),List.nodup_nil,D.new hq,But.new hq⟩ ?_ ?_
  ·rintro i σ H1 hi ⟨ys,a,b,c,rfl,e1,hl,hy,nd,D1,b1⟩
   refine ⟨_,rfl,p,dc,rfl,D1,fun x H2 nx D2 b2=>?_⟩
   have e2:H2 q=some (.lst (ys.map V.str)):=b2 q _ e1 (D1.ne e1 (by intro kvs z;cases z))
   refine ⟨_,rfl,by decide,by decide,?_⟩
   refine ae2 (n:=64) (fun j σ H3=>∃ (z:Str) (c:Option V),σ=[some (.ref p),some (.int m),some (.ref q),some (.int (0+(i:Int))),some (.str z),c]/\Nm z/\H3=H2/\(z∉ys∨∀ s,s<j->wd (i+s)∈ys)) ⟨x,_,rfl,nx,rfl,.inr fun s hs=>absurd hs (Nat.not_lt_zero _)⟩ ?_ ?_
   ·rintro j σ H3 hj ⟨z,c,rfl,nz,rfl,hz⟩
    refine ⟨_,rfl,_,rfl,q,_,rfl,.inl (SqL.of e2),rfl,?_,_,rfl,?_⟩
    ·rw [List.all_eq_true]
     intro v hv
     obtain ⟨y,_,rfl⟩:=List.mem_map.mp hv
     rfl
    ·have hin:inV (.str z) (ys.map V.str)=true↔z∈ys:=by
      unfold inV
      rw [List.any_map,List.any_eq_true]
      constructor
      ·rintro ⟨y,hy1,hy2⟩
       have:y=z:=by simpa [eqV] using hy2
       exact this ▸ hy1
      ·intro hz'
       exact ⟨z,hz',by simp [eqV]⟩
     refine ite2 (fun hc=>?_) (fun hc=>⟨z,_,rfl,nz,rfl,.inl fun hz'=>hc (hin.mpr hz')⟩)
     have hz1:=hin.mp hc
     have hz2:∀ s,s<j->wd (i+s)∈ys:=hz.elim (fun n=>absurd hz1 n) id
     have u1:(0+(i:Int)+(0+(j:Int))) % 8=(((i+j) % 8:Nat):Int):=by omega
     have u2:(0+(i:Int)+(0+(j:Int))) / 8 % 8=(((i+j) / 8 % 8:Nat):Int):=by omega
     have h1:("abcdefgh" : Str).cps.toList[(i+j) % 8]?=some (97+(i+j) % 8):=by
      have:=Nat.mod_lt (i+j) (show 0<8 by decide)
      generalize (i+j) % 8=m8 at this
      revert m8;decide +kernel
     have h2:("qrstuvwx" : Str).cps.toList[(i+j) / 8 % 8]?=some (113+(i+j) / 8 % 8):=by
      have:=Nat.mod_lt ((i+j) / 8) (show 0<8 by decide)
      generalize (i+j) / 8 % 8=m8 at this
      revert m8;decide +kernel
     refine ⟨_,rfl,_,rfl,_,_,rfl,rfl,_,_,rfl,rfl,(by show (0:Int)<8;decide),_,_,_,rfl,rfl,(show 8≤sizeLine by decide),(by rw [u1];exact a09 h1),?_⟩
     refine ⟨_,rfl,_,rfl,_,_,rfl,rfl,_,_,rfl,rfl,⟨by decide,by decide⟩,_,_,rfl,rfl,(by show (0:Int)<8;decide),_,_,_,rfl,rfl,(show 8≤sizeLine by decide),(by rw [u2];exact a09 h2),?_⟩
     refine ⟨_,_,rfl,rfl,(show 1+1≤sizeLine by decide),wd (i+j),_,rfl,wd_nm _,rfl,?_⟩
     by_cases hw:wd (i+j)∈ys
     ·refine .inr fun s hs=>?_
      by_cases hsj:s=j
      ·rw [hsj];exact hw
      ·exact hz2 s (by omega)
     ·exact .inl hw
   ·rintro σ H3 ⟨z,c,rfl,nz,rfl,hz⟩
    have znew:z∉ys:=hz.elim id fun h=>(wd_new (by omega) h).elim
    refine ⟨_,rfl,.inl ⟨rfl,_,SqL.of e2⟩,_,rfl,q,_,_,rfl,rfl,e2,by rw [List.length_map];exact aj6 (by omega),?_⟩
    have nqc:q≠dc:=by
     obtain ⟨xs,e⟩:=D.cell
     exact (a70 e hq).symm
    have nqp:q≠p:=D2.ne e2 (by intro kvs z;cases z)
    refine ⟨ys++[z],_,_,_,rfl,by rw [a02];simp,by simp [hl],fun y hy'=>(List.mem_append.mp hy').elim (hy y) (fun h=>by rw [List.mem_singleton.mp h];exact nz),nd_snoc nd znew,D2.put nqp nqc,fun b o e hb=>?_⟩
    rw [a68 (a70 e hq)]
    exact (b1.trans b2) b o e hb
  ·rintro σ H1 ⟨ys,a,b,c,rfl,e1,hl,hy,nd,D1,b1⟩
   exact ⟨_,rfl,k q ys H1 e1 hq (by omega) hy nd D1 b1⟩
end
abbrev Fld:=Str×Int×Int
structure FldOk (f:Fld):Prop where
 nm:Nm f.1
 lo:-999999≤f.2.1
 le:f.2.1≤f.2.2
 hi:f.2.2≤999999
def TK (H H':Hp):Prop:=∀ b xs,H b=some (.tup xs)->H' b=some (.tup xs)
theorem TK.trans {H H1 H2:Hp} (a:TK H H1) (b:TK H1 H2):TK H H2:=fun c xs h=>b c xs (a c xs h)
theorem TK.but {H H':Hp} {p dc:Addr} (d:Dr H p dc) (b:But p H H'):TK H H':=fun c xs h=>b c _ h (d.ne h (by intro kvs z;cases z))
theorem TK.lst {H:Hp} {q:Addr} {xs:List V} {o:HO} (h:H q=some (.lst xs)):TK H (upd H q o):=fun c ys e=>by rw [a68 (ah9 e h (by intro z;cases z))];exact e
theorem TK.new {H:Hp} {q:Addr} {o:HO} (h:H q=none):TK H (upd H q o):=fun c ys e=>by rw [a68 (a70 e h)];exact e
def ad6 (H:Hp) (x:V) (f:Fld):Prop:=∃ b,x=.ref b/\H b=some (.tup [.str f.1,.int f.2.1,.int f.2.2])
theorem ad6.tk {H H':Hp} {x:V} {f:Fld} (h:ad6 H x f) (k:TK H H'):ad6 H' x f:=let ⟨b,e,q⟩:=h;⟨b,e,k _ _ q⟩
theorem aa9 {H H':Hp}:∀ {xs:List V} {fs:List Fld},Paired (ad6 H) xs fs->TK H H'->Paired (ad6 H') xs fs
 |_,_,.nil,_=>.nil
 |_,_,.cons r t,k=>.cons (r.tk k) (aa9 t k)
section
variable {P:Program} {w:World} {K:PySem.W.Frag} {mg:Str->Option Value} {base:Heap}
def spBound:Sp:=fun vs H Q _=>∃ (p dc:Addr),vs=[.ref p]/\Dr H p dc/\∀ (z:Int) (H':Hp),-999999≤z->z≤999999->Dr H' p dc->But p H H'->Q (.int z) H'
theorem scBd:a77 ["_law_d","_law_near"] ["_law_d"] (a03 (top 41)):=⟨rfl,rfl,rfl,by decide +kernel,rfl,by decide +kernel,by decide +kernel⟩
theorem ok_bound {f fP fO:Addr} {fd fdP fdO:FuncData} (F:Fun K "_law_bound" "_law_bound" (top 41) f fd) (T:Txt K mg) (DP:Def K mg "_law_pick" (top 35) ["_law_d","_law_many"] fP fdP) (DO:Def K mg "_law_of" (top 36) ["_law_d","_law_things"] fO fdO) :
 FnOk P w K mg base CX0 3 f fd ["_law_d"] spBound:=by
 have GP:FnOk P w K mg base CX0 1 fP fdP ["_law_d","_law_many"] ac9:=ab5 DP.F T
 have GO:FnOk P w K mg base CX0 2 fO fdO ["_law_d","_law_things"] (spOf K):=aq8 DO.F T DP
 refine F.ok scBd (fun vs H Q E h=>?_) (fun cdv A outer s H vs Q E hr h=>?_)
 ·obtain ⟨p,dc,rfl,_⟩:=h
  rfl
 ·obtain ⟨p,dc,rfl,D,k⟩:=h
  have hr1:Room 1 _:=hr.mono (by decide)
  refine ⟨_,(a05
 (a79 (i:=1) scBd.nd rfl (Or.inl rfl) (a97 (a00 a04 (a00 a04 (a00 a04 (a00 (a07 GP hr1 rfl DP.mg DP.F.kp DP.b .nil a74 (a00 (pv 0) (a00 a04 a01))) (a00 (a81 ae0 (a07 GP hr1 rfl DP.mg DP.F.kp DP.b .nil a74 (a00 (pv 0) (a00 a04 a01))) a04) a01)))))))
 (a06
 (a69 (a07 GO hr rfl DO.mg DO.F.kp DO.b .nil a74 (a00 (pv 0) (a00 (a81 op_cat (pv 1) (a97 (a00 a04 (a00 (aq9 ai8 a04) (a00 (a81 ae0 (a07 GP hr1 rfl DP.mg DP.F.kp DP.b .nil a74 (a00 (pv 0) (a00 a04 a01))) a04) a01))))) a01)))))),?_⟩
  refine ⟨_,rfl,p,dc,_,rfl,D,by decide,by decide,fun r1 H1 a1 b1 D1 t1=>?_⟩
  refine ⟨_,rfl,p,dc,_,rfl,D1,by decide,by decide,fun r2 H2 a2 b2 D2 t2=>⟨_,_,rfl,rfl,(show 5≤sizeLine by decide),fun q1 h1=>?_⟩⟩
  have D2':=D2.new (o:=.lst [.int 0,.int 0,.int 5,.int r1,.int (r2-20)]) h1
  refine ⟨_,rfl,_,rfl,_,rfl,_,rfl,p,dc,_,rfl,D2',by decide,by decide,fun r3 H3 a3 b3 D3 t3=>⟨_,_,rfl,rfl,(show 3≤sizeLine by decide),fun q2 h2=>?_⟩⟩
  have e1:H3 q1=some (.lst [.int 0,.int 0,.int 5,.int r1,.int (r2-20)]):=t3 q1 _ a02 (D2'.ne a02 (by intro kvs z;cases z))
  refine ⟨q1,q2,_,_,rfl,rfl,(Same.new h2) _ _ e1,a02,(show 5+3≤sizeLine by decide),fun q3 h3=>?_⟩
  have D4:=(D3.new (o:=.lst [.int 999999,.int (-999999),.int (r3-999999)]) h2)
  refine ⟨p,dc,q3,_,rfl,D4.new h3,SqL.of a02,by simp,by simp,fun x H5 hx D5 t5=>?_⟩
  obtain ⟨z,rfl,z0,z1⟩:∃ z:Int,x=.int z/\-999999≤z/\z≤999999:=by
   simp only [List.cons_append,List.nil_append,List.mem_cons,List.not_mem_nil,or_false] at hx
   rcases hx with rfl|rfl|rfl|rfl|rfl|rfl|rfl|rfl
   all_goals exact ⟨_,rfl,by omega,by omega⟩
  exact k z H5 z0 z1 D5 (((t1.trans t2).trans (But.new h1)).trans (((t3.trans (But.new h2)).trans (But.new h3)).trans t5))
def spFields (K:PySem.W.Frag):Sp:=fun vs H Q _=>∃ (p dc:Addr) (m:Int),vs=[.ref p,.int m]/\Dr H p dc/\0≤m/\m≤60/\∀ (a:Addr) (xs:List V) (fs:List Fld) (H':Hp),H' a=some (.tup xs)->Paired (ad6 H') xs fs->(fs.length:Int)=m->(∀ f∈fs,FldOk f)->(fs.map (·.1)).Nodup->H a=none->Dr H' p dc->But p H H'->Q (.ref a) H'
theorem scFs:a77 ["_law_d","_law_many","_law_names","_law_found","_law_title","_law_low","_law_high"] ["_law_d","_law_many"] (a03 (top 42)):=⟨rfl,rfl,rfl,by decide +kernel,rfl,by decide +kernel,by decide +kernel⟩
theorem ok_fields {f fP fO fW fWs fB:Addr} {fd fdP fdO fdW fdWs fdB:FuncData} (F:Fun K "_law_fields" "_law_fields" (top 42) f fd) (T:Txt K mg) (DP:Def K mg "_law_pick" (top 35) ["_law_d","_law_many"] fP fdP) (DO:Def K mg "_law_of" (top 36) ["_law_d","_law_things"] fO fdO)
 (DW:Def K mg "_law_word" (top 39) ["_law_d"] fW fdW) (DWs:Def K mg "_law_words" (top 40) ["_law_d","_law_many"] fWs fdWs) (DB:Def K mg "_law_bound" (top 41) ["_law_d"] fB fdB):FnOk P w K mg base CX0 5 f fd ["_law_d","_law_many"] (spFields K):=by
 have GP:FnOk P w K mg base CX0 1 fP fdP ["_law_d","_law_many"] ac9:=ab5 DP.F T
 have GO:FnOk P w K mg base CX0 2 fO fdO ["_law_d","_law_things"] (spOf K):=aq8 DO.F T DP
 have GWs:FnOk P w K mg base CX0 4 fWs fdWs ["_law_d","_law_many"] (spWords K):=ok_words DWs.F T DP DO DW
 have GB:FnOk P w K mg base CX0 3 fB fdB ["_law_d"] spBound:=ok_bound DB.F T DP DO
 refine F.ok scFs (fun vs H Q E h=>?_) (fun cdv A outer s H vs Q E hr h=>?_)
 ·obtain ⟨p,dc,m,rfl,_⟩:=h
  rfl
 ·obtain ⟨p,dc,m,rfl,D,m0,m1,k⟩:=h
  have hr1:Room 1 _:=hr.mono (by decide)
  have hr2:Room 2 _:=hr.mono (by decide)
  have hr3:Room 3 _:=hr.mono (by decide)
  refine ⟨_,(a05
 (a79 (i:=2) scFs.nd rfl (Or.inl rfl) (a07 GWs hr rfl DWs.mg DWs.F.kp DWs.b .nil a74 (a00 (pv 0) (a00 (pv 1) a01))))
 (a05
 (a79 (i:=3) scFs.nd rfl (Or.inl rfl) (a97 a01))
 (a05
 (ae6 PassesOwn.never rfl (at9 (pv 2)) (a82 (i:=4) scFs.nd rfl (Or.inl rfl)) (a05
 (a79 (i:=5) scFs.nd rfl (Or.inl rfl) (a07 GB hr3 rfl DB.mg DB.F.kp DB.b .nil a74 (a00 (pv 0) a01)))
 (a05
 (a79 (i:=6) scFs.nd rfl (Or.inl rfl) (a08 (ai7 rfl) (by rfl) T.min bt_min (a00 a04 (a00 (a81 aa6 (pv 5) (a07 GO hr2 rfl DO.mg DO.F.kp DO.b .nil a74 (a00 (pv 0) (a00 (a97 (a00 a04 (a00 a04 (a00 a04 (a00 a04 (a00 (a07 GP hr1 rfl DP.mg DP.F.kp DP.b .nil a74 (a00 (pv 0) (a00 a04 a01))) a01)))))) a01)))) a01))))
 (a06
 (ab3 (pe_bm PySem.F.plainAttrs_list PySem.F.slot_list_append PySem.F.type_list_append ai9 (pv 3) (a00 (a96 (a00 (pv 4) (a00 (pv 5) (a00 (pv 6) a01)))) a01)))))))
 (a06
 (a69 (ac0 ad0 (by rfl) T.tuple ac2 (a00 (pv 3) a01))))))),?_⟩
  refine ⟨_,rfl,_,rfl,p,dc,m,rfl,D,m0,m1,fun q ys H1 e1 hq hl hy nd D1 t1=>?_⟩
  refine ⟨(show 0≤sizeLine by decide),fun q2 h2=>?_⟩
  have D1':=D1.new (o:=.lst []) h2
  have e1':(upd H1 q2 (.lst [])) q=some (.lst (ys.map V.str)):=(Same.new h2) _ _ e1
  have nq:q2≠q:=(a70 e1 h2).symm
  have hq2:H q2=none:=by
   cases e:H q2 with
   |none=>rfl
   |some o=>rw [t1 q2 o e (D1.neN h2).symm] at h2;cases h2
  have nq2c:q2≠dc:=by
   obtain ⟨xs,e⟩:=D1.cell
   exact (a70 e h2).symm
  refine ⟨_,rfl,q,rfl,⟨_,SqL.of e1'⟩,for_list (K:=K) (a:=q) (xs:=ys.map V.str) (fun i σ H2=>∃ (xs:List V) (fs:List Fld) (a b c:Option V),σ=[some (.ref p),some (.int m),some (.ref q),some (.ref q2),a,b,c]/\H2 q=some (.lst (ys.map V.str))/\H2 q2=some (.lst xs)/\Paired (ad6 H2) xs fs/\fs.map (·.1)=ys.take i/\(∀ f∈fs,FldOk f)/\Dr H2 p dc/\But p H H2)
   ⟨[],[],none,none,none,rfl,e1',a02,.nil,by simp,(fun _ h=>by cases h),D1',t1.trans (But.new h2)⟩ (fun i σ H2 _ ⟨_,_,_,_,_,_,e,_⟩=>SqL.of e) ?_ ?_⟩
  ·rintro i y σ H2 hi ⟨xs,fs,a,b,c,rfl,g1,g2,pf,hm,hf,D2,t2⟩
   rw [List.getElem?_map] at hi
   obtain ⟨n,hn,rfl⟩:=Option.map_eq_some_iff.mp hi
   have hil:i<ys.length:=(List.getElem?_eq_some_iff.mp hn).1
   refine ⟨_,rfl,p,dc,rfl,D2,fun lo H3 l0 l1 D3 t3=>?_⟩
   have np:∀ {b:Addr} {ws:List V} {H':Hp},Dr H' p dc->H' b=some (.lst ws)->b≠p:=fun d e=>d.ne e (by intro kvs z;cases z)
   refine ⟨_,rfl,_,rfl,_,rfl,p,dc,_,rfl,D3,by decide,by decide,fun r H4 r0 r1 D4 t4=>⟨(show 5≤sizeLine by decide),fun q3 h3=>?_⟩⟩
   have D4':=D4.new (o:=.lst [.int 0,.int 1,.int 3,.int 9,.int r]) h3
   refine ⟨p,dc,q3,_,rfl,D4',SqL.of a02,by simp,by simp,fun x H5 hx D5 t5=>?_⟩
   obtain ⟨z,rfl,z0⟩:∃ z:Int,x=.int z/\0≤z:=by
    simp only [List.mem_cons,List.not_mem_nil,or_false] at hx
    rcases hx with rfl|rfl|rfl|rfl|rfl
    all_goals exact ⟨_,rfl,by omega⟩
   refine ⟨_,_,rfl,rfl,_,_,rfl,?_⟩
   have t35:But p H2 H5:=((t3.trans t4).trans (But.new h3)).trans t5
   have g1':H5 q=some (.lst (ys.map V.str)):=t35 q _ g1 (np D2 g1)
   have g2':H5 q2=some (.lst xs):=t35 q2 _ g2 (np D2 g2)
   have k5:TK H2 H5:=TK.but D2 t35
   refine ⟨_,rfl,.inl ⟨rfl,_,SqL.of g2'⟩,_,rfl,_,rfl,_,rfl,(show 3≤sizeLine by decide),fun q4 h4=>?_⟩
   have g2'':∀ o,(upd H5 q4 o) q2=some (.lst xs):=fun o=>(Same.new h4) _ _ g2'
   have hlen:fs.length=i:=by
    have:=congrArg List.length hm
    rw [List.length_map,List.length_take] at this
    omega
   have pl:=Paired.length pf
   refine ⟨q2,xs,_,rfl,rfl,g2'' _,aj6 (by omega),?_⟩
   generalize hhi:(if lo+z<999999 then lo+z else 999999)=hi'
   have h1:lo≤hi'/\hi'≤999999:=by rw [← hhi];split <;> omega
   refine ⟨xs++[.ref q4],fs++[(n,lo,hi')],_,_,_,rfl,?_,a02,?_,?_,?_,?_,?_⟩
   ·rw [a68 nq.symm];exact (Same.new h4) _ _ g1'
   ·refine Paired.snoc (aa9 pf (k5.trans ((TK.new h4).trans (TK.lst (g2'' _))))) ⟨q4,rfl,?_⟩
    exact (TK.lst (g2'' _)) _ _ a02
   ·rw [List.map_append,hm,List.take_add_one,hn];rfl
   ·intro f hf'
    rcases List.mem_append.mp hf' with hf'|hf'
    ·exact hf f hf'
    ·obtain rfl:f=(n,lo,hi'):=by simpa using hf'
     exact ⟨hy n (List.mem_of_getElem? hn),l0,h1.1,h1.2⟩
   ·exact (D5.new h4).put (np (D5.new (o:=.tup [.str n,.int lo,.int hi']) h4) (g2'' _)) nq2c
   ·intro b o e hb
    rw [a68 (a70 e hq2)]
    exact (Same.new h4) _ _ ((t2.trans t35) b o e hb)
  ·rintro σ H2 ⟨xs,fs,a,b,c,rfl,g1,g2,pf,hm,hf,D2,t2⟩
   rw [List.length_map,List.take_length] at hm
   refine ⟨_,rfl,q2,xs,rfl,.inl ⟨SqL.of g2,fun l hn=>?_⟩⟩
   refine k l xs fs _ a02 (aa9 pf (TK.new hn)) ?_ hf (by rw [hm];exact nd) ?_ (D2.new hn) (t2.trans (But.new hn))
   ·rw [← List.length_map (f:=(·.1)),hm];exact hl
   ·cases e:H l with
    |none=>rfl
    |some o=>rw [t2 l o e (D2.neN hn).symm] at hn;cases hn
end
theorem uni:∀ c<128,Unicode.isAlpha c=(decide (65≤c/\c≤90) || decide (97≤c/\c≤122))/\Unicode.isLower c=decide (97≤c/\c≤122)/\Unicode.isUpper c=decide (65≤c/\c≤90)/\Unicode.isTitle c=false:=by decide +kernel
def nameB (x:Str):Bool:=decide (x.length≤8) && (x.cps.all (·<128) && ((x.length > 0 && x.cps.all Unicode.isAlpha) && (x.cps.any Unicode.isLower && !x.cps.any fun c=>Unicode.isUpper c || Unicode.isTitle c)))
theorem ae8 (x:Str):nameB x=true↔Nm x:=by
 unfold nameB
 simp only [Bool.and_eq_true,decide_eq_true_eq,Bool.not_eq_true',← Array.all_toList,← Array.any_toList,List.all_eq_true,List.any_eq_true,List.any_eq_false]
 constructor
 ·rintro ⟨h8,ha,⟨h0,hal⟩,⟨c0,hc0,hl0⟩,hu⟩
  refine ⟨h0,h8,fun c hc=>?_⟩
  have c1:c<128:=ha c hc
  obtain ⟨u1,u2,u3,u4⟩:=uni c c1
  have a1:=hal c hc
  have a2:=hu c hc
  rw [u1] at a1
  rw [u3,u4] at a2
  simp at a1 a2
  omega
 ·rintro ⟨h0,h8,lc⟩
  have cc:∀ c∈x.cps.toList,c<128/\97≤c/\c≤122:=fun c hc=>⟨by have:=lc c hc;omega,lc c hc⟩
  refine ⟨h8,fun c hc=>(cc c hc).1,⟨h0,fun c hc=>?_⟩,?_,fun c hc=>?_⟩
  ·rw [(uni c (cc c hc).1).1];simp [(cc c hc).2]
  ·rw [len_cps] at h0
   obtain ⟨c,hc⟩:=List.exists_mem_of_length_pos (show 0<x.cps.toList.length by omega)
   exact ⟨c,hc,by rw [(uni c (cc c hc).1).2.1];simp [(cc c hc).2]⟩
  ·rw [(uni c (cc c hc).1).2.2.1,(uni c (cc c hc).1).2.2.2]
   have:=(cc c hc).2
   simp;omega
structure TxtK (mg:Str->Option Value):Prop where
 ml:∃ t,mg "MOST_LETTERS" = some (.int 8 t)
 mf:∃ t,mg "MOST_FIELDS" = some (.int 4 t)
 lim:∃ t,mg "LIMIT" = some (.int 999999 t)
section
variable {P:Program} {w:World} {K:PySem.W.Frag} {mg:Str->Option Value} {base:Heap}
def au0:Sp:=fun vs H Q _=>∃ x:Str,vs=[.str x]/\x.length≤sizeLine/\Q (.bl (nameB x)) H
theorem scIN:a77 ["text"] ["text"] (a03 (top 14)):=⟨rfl,rfl,rfl,by decide +kernel,rfl,by decide +kernel,by decide +kernel⟩
theorem ok_isname {f:Addr} {fd:FuncData} (F:Fun K "is_name" "is_name" (top 14) f fd) (T:Txt K mg) (TK:TxtK mg):FnOk P w K mg base CX0 1 f fd ["text"] au0:=by
 refine F.ok scIN (fun vs H Q E h=>?_) (fun cdv A outer s H vs Q E hr h=>?_)
 ·obtain ⟨x,rfl,_⟩:=h
  rfl
 ·obtain ⟨x,rfl,hl,k⟩:=h
  obtain ⟨t8,m8⟩:=TK.ml
  refine ⟨_,(a06
 (a69 (aa5 (a94 af8 (a08 ag1 (by rfl) T.len a86 (a00 (pv 0) a01)) (ac1 (v:=.int 8) rfl m8 ⟨_,rfl⟩) (a72 _)) (aa5 (pe_bm0 PySem.F.plainAttrs_str PySem.F.slot_str_isascii PySem.F.type_str_isascii mt_isascii (pv 0)) (aa5 (pe_bm0 PySem.F.plainAttrs_str PySem.F.slot_str_isalpha PySem.F.type_str_isalpha mt_isalpha (pv 0)) (ac7 (pe_bm0 PySem.F.plainAttrs_str PySem.F.slot_str_islower PySem.F.type_str_islower mt_islower (pv 0)))))))),?_⟩
  refine ⟨_,rfl,x,rfl,hl,_,_,rfl,rfl,_,rfl,?_⟩
  unfold nameB at k
  by_cases h8:x.length≤8
  ·refine ifT (by simp;omega) ⟨_,rfl,rfl,x,rfl,rfl,_,rfl,?_⟩
   rw [decide_eq_true h8,Bool.true_and] at k
   cases h1:x.cps.all (·<128) with
   |false=>rw [h1] at k;exact ifF h1 k
   | true=>
     rw [h1,Bool.true_and] at k
     refine ifT h1 ⟨_,rfl,rfl,x,rfl,rfl,_,rfl,?_⟩
     cases h2:(x.length > 0 && x.cps.all Unicode.isAlpha) with
     |false=>rw [h2] at k;exact ifF h2 k
     | true=>
       rw [h2,Bool.true_and] at k
       exact ifT h2 ⟨_,rfl,rfl,x,rfl,rfl,k⟩
  ·refine ifF (by simp;omega) ?_
   rw [decide_eq_false h8,Bool.false_and] at k
   exact k
def aj7:Sp:=fun vs H Q _=>∃ x:Str,vs=[.str x]/\Nm x/\Q .non H
theorem scNN:a77 ["text"] ["text"] (a03 (top 15)):=⟨rfl,rfl,rfl,by decide +kernel,rfl,by decide +kernel,by decide +kernel⟩
theorem an4 {f fI:Addr} {fd fdI:FuncData} (F:Fun K "need_name" "need_name" (top 15) f fd) (T:Txt K mg) (TK:TxtK mg) (DI:Def K mg "is_name" (top 14) ["text"] fI fdI):FnOk P w K mg base CX0 2 f fd ["text"] aj7:=by
 have GI:FnOk P w K mg base CX0 1 fI fdI ["text"] au0:=ok_isname DI.F T TK
 refine F.ok scNN (fun vs H Q E h=>?_) (fun cdv A outer s H vs Q E hr h=>?_)
 ·obtain ⟨x,rfl,_⟩:=h
  rfl
 ·obtain ⟨x,rfl,nm,k⟩:=h
  refine ⟨_,(a06 (a84 (af6 (ac8 (a07 GI hr rfl DI.mg DI.F.kp DI.b .nil a74 (a00 (pv 0) a01)))) (a06 aj2) a73)),?_⟩
  refine ⟨_,rfl,x,rfl,Nat.le_trans nm.hi (by decide),_,rfl,?_⟩
  rw [(ae8 x).mpr nm]
  exact ifF rfl k
def ak6:Sp:=fun vs H Q _=>∃ (a:Addr) (xs:List V) (fs:List Fld),vs=[.ref a]/\H a=some (.tup xs)/\Paired (ad6 H) xs fs/\fs.length≤60/\(∀ f∈fs,FldOk f)/\(fs.map (·.1)).Nodup/\∀ H',Same H H'->Q .non H'
theorem ac3 {α β:Type} {F:α->β->Prop}:∀ {xs:List α} {ys:List β} {i:Nat} {x:α},Paired F xs ys->xs[i]?=some x->∃ y,ys[i]?=some y/\F x y
 |_,_,_,_,.nil,e=>by simp at e
 |_,_,0,_,.cons r _,e=>by simp at e;subst e;exact ⟨_,rfl,r⟩
 | _,_,i+1,x,.cons _ t,e=>by
   obtain ⟨y,h1,h2⟩:=ac3 (i:=i) (x:=x) t (by simpa using e)
   exact ⟨y,by simpa using h1,h2⟩
theorem scNF:a77 ["fields","seen","name","low","high"] ["fields"] (a03 (top 16)):=⟨rfl,rfl,rfl,by decide +kernel,rfl,by decide +kernel,by decide +kernel⟩
theorem at6 {f fI fN:Addr} {fd fdI fdN:FuncData} (F:Fun K "need_fields" "need_fields" (top 16) f fd) (T:Txt K mg) (TK':TxtK mg) (DI:Def K mg "is_name" (top 14) ["text"] fI fdI) (DN:Def K mg "need_name" (top 15) ["text"] fN fdN):FnOk P w K mg base CX0 3 f fd ["fields"] ak6:=by
 have GN:FnOk P w K mg base CX0 2 fN fdN ["text"] aj7:=an4 DN.F T TK' DI
 refine F.ok scNF (fun vs H Q E h=>?_) (fun cdv A outer s H vs Q E hr h=>?_)
 ·obtain ⟨a,xs,fs,rfl,_⟩:=h
  rfl
 ·obtain ⟨a,xs,fs,rfl,ha,pf,hl,hf,nd,k⟩:=h
  obtain ⟨tl,ml⟩:=TK'.lim
  refine ⟨_,(a05
 (a79 (i:=1) scNF.nd rfl (Or.inl rfl) (a97 a01))
 (a06
 (ae6 PassesOwn.never rfl (al2 (pv 0)) (al4 rfl (a91 (a82 (i:=2) scNF.nd rfl (Or.inl rfl)) (a91 (a82 (i:=3) scNF.nd rfl (Or.inl rfl)) (a91 (a82 (i:=4) scNF.nd rfl (Or.inl rfl)) ag7))))
  (a05 (ab3 (a07 GN hr rfl DN.mg DN.F.kp DN.b .nil a74 (a00 (pv 2) a01)))
  (a05 (a84 (a67 ad2 (pv 2) (pv 1) rfl) (a06 aj2) a73)
  (a05 (a84 (af6 (pt_chain3 af8 af8 af8 (aq9 ai8 (ac1 (v:=.int 999999) rfl ml ⟨_,rfl⟩)) (pv 3) (pv 4) (ac1 (v:=.int 999999) rfl ml ⟨_,rfl⟩))) (a06 aj2) a73)
  (a06 (ab3 (pe_bm PySem.F.plainAttrs_list PySem.F.slot_list_append PySem.F.type_list_append ai9 (pv 1) (a00 (pv 2) a01)))))))))),?_⟩
  refine ⟨(show 0≤sizeLine by decide),fun q hq=>?_⟩
  have pl:=Paired.length pf
  have ha':∀ {H':Hp},Same H H'->H' a=some (.tup xs):=fun e=>e _ _ ha
  refine ⟨_,rfl,a,rfl,⟨_,SqT.of (ha' (Same.new hq))⟩,for_tup (K:=K) (a:=a) (xs:=xs) (fun i σ H1=>∃ (b c d:Option V),σ=[some (.ref a),some (.ref q),b,c,d]/\H1 q=some (.lst (((fs.map (·.1)).take i).map V.str))/\Same H H1)
   ⟨none,none,none,rfl,by rw [a02];simp,Same.new hq⟩ (fun i σ H1 _ ⟨_,_,_,_,_,e⟩=>SqT.of (ha' e)) ?_ ?_⟩
  ·rintro i x σ H1 hi ⟨b,c,d,rfl,e1,s1⟩
   obtain ⟨⟨n,lo,hi'⟩,hfi,b',rfl,hb⟩:=ac3 pf hi
   have fo:=hf _ (List.mem_of_getElem? hfi)
   have hil:i<fs.length:=(List.getElem?_eq_some_iff.mp hfi).1
   refine ⟨b',_,rfl,SqT.of (s1 _ _ hb),rfl,_,_,rfl,_,_,rfl,_,_,rfl,rfl,?_⟩
   refine ⟨_,rfl,n,rfl,fo.nm,?_⟩
   have hnot:n∉(fs.map (·.1)).take i:=by
    intro hm
    have h1:(fs.map (·.1))[i]?=some n:=by rw [List.getElem?_map,hfi];rfl
    obtain ⟨j,hj,e⟩:=List.getElem_of_mem hm
    rw [List.length_take] at hj
    rw [List.getElem_take] at e
    have h2:(fs.map (·.1))[j]?=some n:=by rw [List.getElem?_eq_getElem (by omega),e]
    have:=am3 nd h1 h2
    omega
   refine ⟨_,rfl,_,rfl,q,_,rfl,.inl (SqL.of e1),rfl,?_,_,rfl,?_⟩
   ·rw [List.all_eq_true]
    intro v hv
    obtain ⟨y,_,rfl⟩:=List.mem_map.mp hv
    rfl
   refine ifF ?_ ?_
   ·show inV (.str n) _=false
    unfold inV
    rw [List.any_map,List.any_eq_false]
    intro y hy hy2
    have:y=n:=by simpa [eqV] using hy2
    exact hnot (this ▸ hy)
   have f1:=fo.lo
   have f2:=fo.le
   have f3:=fo.hi
   refine ⟨_,rfl,_,rfl,_,_,rfl,rfl,_,rfl,ifT (by simpa using f1) ?_⟩
   refine ⟨_,rfl,_,_,rfl,rfl,_,rfl,ifT (by simpa using f2) ?_⟩
   refine ⟨_,_,rfl,rfl,_,rfl,ifF (by simpa using f3) ?_⟩
   have lt:((fs.map (·.1)).take i).length≤60:=by rw [List.length_take,List.length_map];omega
   refine ⟨_,rfl,.inl ⟨rfl,_,SqL.of e1⟩,_,rfl,q,_,_,rfl,rfl,e1,by rw [List.length_map];exact aj6 (by omega),?_⟩
   refine ⟨_,_,_,rfl,?_,fun c o e=>by rw [a68 (a70 e hq)];exact s1 c o e⟩
   rw [a02,List.take_add_one,List.getElem?_map,hfi]
   simp
  ·rintro σ H1 ⟨b,c,d,rfl,e1,s1⟩
   exact k H1 s1
end
structure FunD (K:PySem.W.Frag) (x qual:Str) (st:Stmt) (dV:Value) (f:Addr) (fd:FuncData):Prop where
 ex:∃ (oc:Value) (od:Option Addr) (kV doc pm:Value) (an:Option Addr) (cdv ct:Value) (osl:Array (Option Value)),
  fd=PySem.W.fnOf x qual (a75 st) (a71 st) (a03 st) dV kV doc pm an cdv ct/\K.lookup f=some ⟨oc,od,.func fd,osl⟩/\PySem.W.codeIn K cdv qual=true
 kp:PySem.W.keepIn K (.ref f)=true
section
variable {P:Program} {w:World} {K:PySem.W.Frag} {mg:Str->Option Value} {base:Heap}
theorem FunD.ok {x qual:Str} {st:Stmt} {dV:Value} {f:Addr} {fd:FuncData} {N ps:List Str} {k:Nat} {sp:Sp} (F:FunD K x qual st dV f fd) (S:a77 N ps (a03 st)) (len:∀ vs H Q E,sp vs H Q E->vs.length=ps.length)
 (hbody:∀ (cdv:Value) (A:Around) (outer:List Env) (s:Shared) (H:Hp) (vs:List V) (Q:VK) (E:XK),Room k (A.deeper (PyProof.Rows.envOfC qual (a03 st) s.heap.objs.size f cdv))->sp vs H Q E->
  ∃ t,PSs (cxOf CX0 P w K mg base N qual (a03 st) f cdv A outer s H E).nox (a71 st) t/\t { nx:=fun _ H'=>Q .non H',rt:=Q } (L2.start N vs) H):FnOk P w K mg base CX0 (k+1) f fd ps sp:=by
 obtain ⟨oc,od,kV,doc,pm,an,cdv,ct,osl,rfl,lk,hcd⟩:=F.ex
 refine fn_of lk hcd S len fun A outer s H vs Q E hr hsp=>?_
 obtain ⟨t,h,q⟩:=hbody cdv A outer s H vs Q E hr hsp
 exact ⟨t,h.nox,q⟩
theorem FunD.binds {x qual:Str} {st:Stmt} {f T:Addr} {fd:FuncData} {ps:List Str} {ds:List Value} {oT:Obj} {items:Array Value} {n:Nat} (F:FunD K x qual st (.ref T) f fd) (hT:K.lookup T=some oT) (hd:oT.data=.seq items n)
 (h:∀ (kV doc pm:Value) (an:Option Addr) (cdv ct:Value) (s:Shared) (us:List Value),s.heap.get? T=some oT->(us++ds).length=ps.length->BindsTo s (PySem.W.fnOf x qual (a75 st) (a71 st) (a03 st) (.ref T) kV doc pm an cdv ct) ⟨us,[]⟩ (ps.zip (us++ds))):Binds K fd ps ds:=by
 obtain ⟨oc,od,kV,doc,pm,an,cdv,ct,osl,rfl,lk,hcd⟩:=F.ex
 exact fun s us X hl=>h kV doc pm an cdv ct s us (X _ _ hT) hl
abbrev sInit:Stmt:=inClass (top 18) 0
theorem bindInit {T:Addr} {oT:Obj} {d0:Value} {n:Nat} (hd:oT.data=.seq #[d0] n) (kV doc pm:Value) (an:Option Addr) (cdv ct:Value) (s:Shared) (us:List Value) (hT:s.heap.get? T=some oT) (h:(us++[]).length=(["self","name","fields"]:List Str).length) :
 BindsTo s (PySem.W.fnOf "__init__" "Kind.__init__" (a75 sInit) (a71 sInit) (a03 sInit) (.ref T) kV doc pm an cdv ct) ⟨us,[]⟩ ((["self","name","fields"]:List Str).zip (us++[])):=by
 rw [List.append_nil] at h ⊢
 match us,h with
 |[a,b,c],_=>exact BindsTo.of_defaults rfl hT hd rfl rfl
structure KCls (K:PySem.W.Frag) (mg:Str->Option Value) (C:Addr):Prop where
 cl:Cls K C
 nN:ak8 K C "name"
 nF:ak8 K C "fields"
 mg:mg "Kind" = some (.ref C)
theorem nf:¬ (("name" : Str) = "fields"):=by decide +kernel
def kf (n:Str) (a:Addr):List (Str×V):=putF "fields" (.ref a) (putF "name" (.str n) [])
theorem kf_name (n:Str) (a:Addr):(kf n a).lookup ("name" : Str)=some (.str n):=by
 unfold kf
 rw [aa2,if_neg nf,aa2,if_pos rfl]
theorem ai5 (n:Str) (a:Addr):(kf n a).lookup ("fields" : Str)=some (.ref a):=by
 unfold kf
 rw [aa2,if_pos rfl]
theorem kf_no (n:Str) (a:Addr) {m:Str} (h1:¬ m = "fields") (h2:¬ m = "name"):(kf n a).lookup m=none:=by
 unfold kf
 rw [aa2,if_neg h1,aa2,if_neg h2]
 rfl
structure ab8 (C:Addr) (H:Hp) (o:Addr) (n:Str) (a:Addr) (fs:List Fld):Prop where
 ob:∃ dx,H o=some (.ins C dx (kf n a))
 tp:∃ xs,H a=some (.tup xs)/\Paired (ad6 H) xs fs
def spInit (C:Addr):Sp:=fun vs H Q _=>∃ (o dx a:Addr) (n:Str) (xs:List V) (fs:List Fld),vs=[.ref o,.str n,.ref a]/\H o=some (.ins C dx [])/\Nm n/\H a=some (.tup xs)/\Paired (ad6 H) xs fs/\fs.length≤4/\(∀ f∈fs,FldOk f)/\(fs.map (·.1)).Nodup/\
 ∀ H',ab8 C H' o n a fs->(∀ b u,H b=some u->b≠o->H' b=some u)->Q .non H'
theorem scKI:a77 ["self","name","fields"] ["self","name","fields"] (a03 sInit):=⟨rfl,rfl,rfl,by decide +kernel,rfl,by decide +kernel,by decide +kernel⟩
theorem ok_init {C f fI fN fF:Addr} {fd fdI fdN fdF:FuncData} {dV:Value} (F:FunD K "__init__" "Kind.__init__" sInit dV f fd) (T:Txt K mg) (TK':TxtK mg) (KC:KCls K mg C) (DI:Def K mg "is_name" (top 14) ["text"] fI fdI) (DN:Def K mg "need_name" (top 15) ["text"] fN fdN)
 (DF:Def K mg "need_fields" (top 16) ["fields"] fF fdF):FnOk P w K mg base CX0 4 f fd ["self","name","fields"] (spInit C):=by
 have GN:FnOk P w K mg base CX0 2 fN fdN ["text"] aj7:=an4 DN.F T TK' DI
 have GF:FnOk P w K mg base CX0 3 fF fdF ["fields"] ak6:=at6 DF.F T TK' DI DN
 refine F.ok scKI (fun vs H Q E h=>?_) (fun cdv A outer s H vs Q E hr h=>?_)
 ·obtain ⟨o,dx,a,n,xs,fs,rfl,_⟩:=h
  rfl
 ·obtain ⟨o,dx,a,n,xs,fs,rfl,ho,hn,ha,pf,hl,hf,nd,k⟩:=h
  obtain ⟨tf,mf⟩:=TK'.mf
  have hr2:Room 2 _:=hr.mono (by decide)
  have pl:=Paired.length pf
  refine ⟨_,(a05
 (ab3 (a07 GN hr2 rfl DN.mg DN.F.kp DN.b .nil a74 (a00 (pv 1) a01)))
 (a05
 (a84 (a67 op_gt (a08 a66 (by rfl) T.len a86 (a00 (pv 2) a01)) (ac1 (v:=.int 4) rfl mf ⟨_,rfl⟩) (a72 _)) (a06 aj2) a73)
 (a05
 (ab3 (a07 GF hr rfl DF.mg DF.F.kp DF.b .nil a74 (a00 (pv 2) a01)))
 (a05
 (ps_fld (pv 0) (pv 1) rfl)
 (a06
 (ps_fld (pv 0) (ac0 ad0 (by rfl) T.tuple ac2 (a00 (pv 2) a01)) rfl)))))),?_⟩
  refine ⟨_,rfl,n,rfl,hn,?_⟩
  refine ⟨_,rfl,a,xs,rfl,.inr (SqT.of ha),_,_,rfl,rfl,_,rfl,ifF (by simp;omega) ?_⟩
  refine ⟨_,rfl,a,xs,fs,rfl,ha,pf,by omega,hf,nd,fun H1 s1=>?_⟩
  refine ⟨_,rfl,_,rfl,o,C,dx,[],rfl,s1 _ _ ho,KC.cl,KC.nN,(show 0<1000 by decide),?_⟩
  have nao:a≠o:=ah9 ha ho (by intro z;cases z)
  have ha1:∀ u,(upd H1 o u) a=some (.tup xs):=fun u=>by rw [a68 nao];exact s1 _ _ ha
  refine ⟨_,rfl,a,xs,rfl,.inr ⟨SqT.of (ha1 _),?_⟩⟩
  refine ⟨_,rfl,o,C,dx,_,rfl,a02,KC.cl,KC.nF,(show 1<1000 by decide),?_⟩
  have keep:∀ b u,H b=some u->b≠o->(upd (upd H1 o (.ins C dx (putF "name" (.str n) []))) o (.ins C dx (kf n a))) b=some u:=fun b u e hb=>by
   rw [a68 hb,a68 hb];exact s1 _ _ e
  refine k _ ⟨⟨dx,a02⟩,xs,keep a _ ha nao,aa9 pf fun b ys e=>keep b _ e (ah9 e ho (by intro z;cases z))⟩ keep
end
theorem ab8.same {C o a:Addr} {n:Str} {fs:List Fld} {H H':Hp} (h:ab8 C H o n a fs) (e:Same H H'):ab8 C H' o n a fs:=by
 obtain ⟨⟨dx,h1⟩,xs,h2,h3⟩:=h
 exact ⟨⟨dx,e _ _ h1⟩,xs,e _ _ h2,aa9 h3 fun b ys z=>e _ _ z⟩
section
variable {P:Program} {w:World} {K:PySem.W.Frag} {mg:Str->Option Value} {base:Heap}
abbrev kM (j:Nat):Stmt:=inClass (top 18) j
end
section
variable {P:Program} {w:World} {K:PySem.W.Frag} {mg:Str->Option Value} {base:Heap}
def placeV (fs:List Fld) (x:Str):V:=if x∈fs.map (·.1) then .int ((fs.map (·.1)).idxOf x:Nat) else .non
def spPlace (C:Addr):Sp:=fun vs H Q _=>∃ (o a:Addr) (n x:Str) (fs:List Fld),vs=[.ref o,.str x]/\ab8 C H o n a fs/\fs.length≤4/\∀ H',Same H H'->Q (placeV fs x) H'
theorem scPl:a77 ["self","field","at","name","low","high"] ["self","field"] (a03 (kM 3)):=⟨rfl,rfl,rfl,by decide +kernel,rfl,by decide +kernel,by decide +kernel⟩
theorem ok_place {C f:Addr} {fd:FuncData} (F:Fun K "place_of" "Kind.place_of" (kM 3) f fd) (T:Txt K mg) (hen:mg "enumerate" = none) (KC:KCls K mg C):FnOk P w K mg base CX0 1 f fd ["self","field"] (spPlace C):=by
 refine F.ok scPl (fun vs H Q E h=>?_) (fun cdv A outer s H vs Q E hr h=>?_)
 ·obtain ⟨o,a,n,x,fs,rfl,_⟩:=h
  rfl
 ·obtain ⟨o,a,n,x,fs,rfl,⟨⟨dx,ho⟩,xs,ha,pf⟩,hl,k⟩:=h
  have pl:=Paired.length pf
  refine ⟨_,(a05
 (ae6 PassesOwn.never rfl (pi_enumT rfl hen ak9 (a00 (pe_fld (pv 0) rfl) a01)) (al4 rfl (a91 (a82 (i:=2) scPl.nd rfl (Or.inl rfl)) (a91 (al4 rfl (a91 (a82 (i:=3) scPl.nd rfl (Or.inl rfl)) (a91 (a82 (i:=4) scPl.nd rfl (Or.inl rfl)) (a91 (a82 (i:=5) scPl.nd rfl (Or.inl rfl)) ag7)))) ag7))) (a06
 (a84 (a67 a85 (pv 3) (pv 1) (a72 _)) (a06
 (a69 (pv 2))) a73)))
 (a06
 (a69 ak7))),?_⟩
  refine ⟨_,rfl,o,C,dx,_,_,rfl,ho,KC.cl,KC.nF,ai5 n a,a,rfl,⟨xs,SqT.of ha⟩,for_enumT (K:=K) (a:=a) (xs:=xs) (fun i σ H1=>(∃ u1 u2 u3 u4,σ=[some (.ref o),some (.str x),u1,u2,u3,u4])/\Same H H1/\x∉(fs.map (·.1)).take i) ⟨⟨none,none,none,none,rfl⟩,Same.refl _,by simp⟩ (fun i σ H1 _ z=>SqT.of (z.2.1 _ _ ha)) ?_ ?_⟩
  ·rintro i y σ H1 p hy ⟨⟨u1,u2,u3,u4,rfl⟩,s1,hn⟩ hp
   obtain ⟨⟨m,lo,hi⟩,hfi,b,rfl,hb⟩:=ac3 pf hy
   have s2:Same H (upd H1 p (.tup [.int i,.ref b])):=s1.trans (Same.new hp)
   refine ⟨p,_,rfl,SqT.of a02,rfl,_,_,rfl,_,_,rfl,b,_,rfl,SqT.of (s2 _ _ hb),rfl,_,_,rfl,_,_,rfl,_,_,rfl,rfl,rfl,?_⟩
   refine ⟨_,rfl,_,rfl,rfl,_,rfl,?_⟩
   have hmi:(fs.map (·.1))[i]?=some m:=by rw [List.getElem?_map,hfi];rfl
   by_cases e:m=x
   ·subst e
    refine ifT (by simp) ⟨_,rfl,?_⟩
    have hmem:m∈fs.map (·.1):=List.mem_of_getElem? hmi
    have hix:(fs.map (·.1)).idxOf m=i:=by
     have hil:=(List.getElem?_eq_some_iff.mp hmi).1
     have hgt:¬ (fs.map (·.1)).idxOf m<i:=fun z=>hn (by
      rw [List.mem_iff_getElem?]
      refine ⟨(fs.map (·.1)).idxOf m,?_⟩
      rw [List.getElem?_take,if_pos z,List.getElem?_eq_getElem (by omega),List.getElem_idxOf])
     have hlt:¬ i<(fs.map (·.1)).idxOf m:=fun z=>by
      have:=List.not_of_lt_findIdx (p:=(· == m)) (xs:=fs.map (·.1)) z
      rw [(List.getElem?_eq_some_iff.mp hmi).2] at this
      simp at this
     omega
    have:=k _ s2
    unfold placeV at this
    rw [if_pos hmem,hix] at this
    exact this
   ·refine ifF (by simp [e]) ⟨⟨_,_,_,_,rfl⟩,s2,?_⟩
    rw [List.take_add_one,hmi]
    simp only [Option.toList_some,List.mem_append,List.mem_singleton,not_or]
    exact ⟨hn,fun z=>e z.symm⟩
  ·rintro σ H1 ⟨⟨u1,u2,u3,u4,rfl⟩,s1,hn⟩
   have:=k _ s1
   unfold placeV at this
   rw [List.take_of_length_le (by rw [List.length_map];omega)] at hn
   rw [if_neg hn] at this
   exact this
end
end Cm
namespace Cm
open PySem L2 PySem.W
def topA (i:Nat):Stmt:=PySem.Challenge.pw_lanescribe_k06_events_that_pass.main.body.getD i (.Pass ⟨0,0,0,0⟩)
def Caught (K:Frag) (cB cS cM Ce:Addr) (fs:List (Str×V)) (wd:Str):Prop:=
 (mroIn K Ce (.ref cB)=some true/\XGet K Ce "at"/\∃ n:Int,fs.lookup ("at" : Str)=some (.int n)/\n.natAbs.log2<1920/\("badvalue " : Str).length+(toString n:Str).length≤sizeLine/\wd=("badvalue " : Str)++(toString n:Str))∨
 (mroIn K Ce (.ref cB)=some false/\mroIn K Ce (.ref cS)=some true/\XGet K Ce "word"/\fs.lookup ("word" : Str)=some (.str wd))∨
 (mroIn K Ce (.ref cB)=some false/\mroIn K Ce (.ref cS)=some false/\mroIn K Ce (.ref cM)=some true/\XGet K Ce "word"/\fs.lookup ("word" : Str)=some (.str wd))
section
variable {P:Program} {w:World} {K:PySem.W.Frag} {mg:Str->Option Value} {base:Heap}
def spAsk (P:Program) (w:World) (K:PySem.W.Frag) (mg:Str->Option Value) (base:Heap) (k:Nat) (cB cS cM:Addr):Shared->List Env->Sp:=fun s outer vs H Q _=>∃ g Qv Ev,vs=[.ref g]/\Thunk P w K mg base s.heap H (frs outer) k g H Qv Ev/\
 (∀ v H',Qv v H'->∀ l,H' l=none->Q (.ref l) (upd H' l (.lst [.str "",v])))/\
 ∀ cls dd H',Ev cls dd H'->∃ Ce da fs wd,cls=.ref Ce/\dd=some da/\H' da=some (exD da fs)/\Caught K cB cS cM Ce fs wd/\∀ l,H' l=none->Q (.ref l) (upd H' l (.lst [.str wd,.non]))
structure TxtA (K:PySem.W.Frag) (mg:Str->Option Value) (cB cS cM:Addr):Prop where
 str:mg "str" = none
 bv:mg "BadValue" = some (.ref cB)
 se:mg "ScribeError" = some (.ref cS)
 mi:mg "Missing" = some (.ref cM)
 xb:∃ B n,XCls K cB B n
 xs:∃ B n,XCls K cS B n
 xm:∃ B n,XCls K cM B n
theorem ap2:a77 ["_law_ask_here","_law_told","_law_word_here","e"] ["_law_ask_here"] (a03 (topA 45)):=⟨rfl,rfl,rfl,by decide +kernel,rfl,by decide +kernel,by decide +kernel⟩
theorem ok_ask {CX:CXT} {f cB cS cM:Addr} {fd:FuncData} {k:Nat} (F:Fun K "_law_ask" "_law_ask" (topA 45) f fd) (T:TxtA K mg cB cS cM):FnOkS P w K mg base CX (k+1) f fd ["_law_ask_here"] (spAsk P w K mg base k cB cS cM):=by
 obtain ⟨B1,n1,x1⟩:=T.xb
 obtain ⟨B2,n2,x2⟩:=T.xs
 obtain ⟨B3,n3,x3⟩:=T.xm
 refine F.okS ap2 (fun s outer vs H Q E h=>?_) (fun cdv A outer s H vs Q E hr h=>?_)
 ·obtain ⟨g,Qv,Ev,rfl,_⟩:=h
  rfl
 ·obtain ⟨g,Qv,Ev,rfl,Th,hv,he⟩:=h
  refine ⟨_,(a05 (a79 (i:=1) ap2.nd rfl (Or.inl rfl) ak7)
   (a05 (a79 (i:=2) ap2.nd rfl (Or.inl rfl) a65)
   (a05 (ps_try rfl rfl rfl (psx_thunk (k:=k) (i:=1) (j:=0) ap2.nd rfl (Or.inl rfl) rfl (Or.inl rfl) rfl hr)
    (ph_cons (i:=3) (C:=cB) (B:=B1) (newId:=n1) ap2.nd rfl rfl (fun ea ps=>ac1 (by rfl) T.bv rfl) (fun ea oe ps Ce dd hm hc hd hvs=>a06 (a79 (i:=2) ap2.nd rfl (Or.inl rfl) (a81 a98 a65 (ac0 ag8 (by rfl) T.str al5 (a00 (pe_xatH hm hc hd hvs (pv 3)) a01)))))
    (ph_cons (i:=3) (C:=cS) (B:=B2) (newId:=n2) ap2.nd rfl rfl (fun ea ps=>ac1 (by rfl) T.se rfl) (fun ea oe ps Ce dd hm hc hd hvs=>a06 (a79 (i:=2) ap2.nd rfl (Or.inl rfl) (pe_xatH hm hc hd hvs (pv 3))))
    (ph_cons (i:=3) (C:=cM) (B:=B3) (newId:=n3) ap2.nd rfl rfl (fun ea ps=>ac1 (by rfl) T.mi rfl) (fun ea oe ps Ce dd hm hc hd hvs=>a06 (a79 (i:=2) ap2.nd rfl (Or.inl rfl) (pe_xatH hm hc hd hvs (pv 3))))
    ph_nil))))
   (a06 (a69 (a97 (a00 (pv 2) (a00 (pv 1) a01)))))))),?_⟩
  have small:∀ x y:V,[x,y].length≤sizeLine:=fun x y=>by rw [sizeLine_eq];show 2≤16777216;decide
  refine ⟨g,Qv,Ev,rfl,Th,fun v H' q=>?_,fun cls dd H' q=>?_⟩
  ·exact ⟨_,rfl,_,rfl,small _ _,fun p hp=>hv v H' q p hp⟩
  ·obtain ⟨Ce,da,fs,wd,rfl,rfl,hd,hc,hq⟩:=he _ _ _ q
   refine ⟨Ce,rfl,x1,?_⟩
   rcases hc with ⟨m1,G,n,l,z,zz,rfl⟩|⟨m1,m2,G,l⟩|⟨m1,m2,m3,G,l⟩
   ·refine ⟨true,m1,fun ea=>?_⟩
    exact ⟨_,rfl,da,fs,_,rfl,rfl,hd,G,l,n,rfl,z,_,_,rfl,rfl,zz,_,rfl,_,rfl,small _ _,fun p hp=>hq p hp⟩
   ·refine ⟨false,m1,x2,true,m2,fun ea=>?_⟩
    exact ⟨_,rfl,da,fs,_,rfl,rfl,hd,G,l,_,rfl,_,rfl,small _ _,fun p hp=>hq p hp⟩
   ·refine ⟨false,m1,x2,false,m2,x3,true,m3,fun ea=>?_⟩
    exact ⟨_,rfl,da,fs,_,rfl,rfl,hd,G,l,_,rfl,_,rfl,small _ _,fun p hp=>hq p hp⟩
end
end Cm
namespace Cm
open PySem L2
end Cm
namespace Cm
open PySem L2 PySem.W
abbrev sSE:Stmt:=inClass (top 2) 0
abbrev sBV:Stmt:=inClass (top 8) 0
section
variable {P:Program} {w:World} {K:PySem.W.Frag} {mg:Str->Option Value} {base:Heap}
theorem FunD.ok1 {CX:CXT} {x qual:Str} {st:Stmt} {dV:Value} {f:Addr} {fd:FuncData} {N ps:List Str} {k:Nat} {sp:Sp} (F:FunD K x qual st dV f fd) (S:a77 N ps (a03 st)) (len:∀ vs H Q E,sp vs H Q E->vs.length=ps.length)
 (hbody:∀ (cdv:Value) (A:Around) (outer:List Env) (s:Shared) (H:Hp) (vs:List V) (Q:VK) (E:XK),Room k (A.deeper (PyProof.Rows.envOfC qual (a03 st) s.heap.objs.size f cdv))->sp vs H Q E->
  ∃ t,PSs (cxOf CX P w K mg base N qual (a03 st) f cdv A outer s H E) (a71 st) t/\t { nx:=fun _ H'=>Q .non H',rt:=Q } (L2.start N vs) H):FnOk P w K mg base CX (k+1) f fd ps sp:=by
 obtain ⟨oc,od,kV,doc,pm,an,cdv,ct,osl,rfl,lk,hcd⟩:=F.ex
 exact fn_of lk hcd S len fun A outer s H vs Q E hr hsp=>hbody cdv A outer s H vs Q E hr hsp
structure ECls (K:Frag) (C:Addr):Prop where
 x:XCls K C "ValueError" "ValueError.__new__"
 w:takerIn K C "word" = some none
def spSE (K:Frag):Sp:=fun vs H Q _=>∃ (e C:Addr) (a:V) (b:V),vs=[.ref e,a,b]/\ECls K C/\H e=some (excO e C none)/\∀ da,H da=none->Q .non (upd (upd H e (excO e C (some da))) da (exD da [("word",b)]))
theorem scSE:a77 ["self","words","word"] ["self","words","word"] (a03 sSE):=⟨rfl,rfl,rfl,by decide +kernel,rfl,by decide +kernel,by decide +kernel⟩
structure TxtE (K:Frag) (mg:Str->Option Value):Prop where
 ve:mg "ValueError" = none
 fc:findCls K (.type "ValueError") (.type "type") "__init__" = some (.val (.builtin "ValueError.__init__"))
theorem ok_se {CX:CXT} {f:Addr} {fd:FuncData} {dV:Value} (F:FunD K "__init__" "ScribeError.__init__" sSE dV f fd) (T:TxtE K mg):FnOk P w K mg base CX 1 f fd ["self","words","word"] (spSE K):=by
 refine F.ok1 scSE (fun vs H Q E h=>?_) (fun cdv A outer s H vs Q E hr h=>?_)
 ·obtain ⟨e,C,a,b,rfl,_⟩:=h
  rfl
 ·obtain ⟨e,C,a,b,rfl,EC,he,k⟩:=h
  refine ⟨_,(a05 (ab3 (pe_typeMeth (by rfl) T.ve (by rfl) (by kernel_rfl) (by decide +kernel) T.fc (call_initX PySem.F.excBase_ValueError) (a00 (pv 0) (a00 (pv 1) a01))))
   (a06 (ps_fldX (B:="ValueError") (newId:="ValueError.__new__") (pv 0) (pv 2) rfl))),?_⟩
  exact ⟨_,rfl,_,rfl,e,C,_,_,rfl,he,EC.x,_,rfl,_,rfl,e,C,rfl,EC.x,EC.w,.inl ⟨he,k⟩⟩
structure ECls2 (K:Frag) (C:Addr):Prop where
 e:ECls K C
 a:takerIn K C "at" = some none
structure MkOf (K:Frag) (mg:Str->Option Value) (cn:Str) (C f:Addr):Prop where
 mg:mg cn=some (.ref C)
 sg:specialIn K (.ref C) "__getattribute__" = some (some (.builtin "type.__getattribute__"))
 rd:∃ mc,readsIn K C mc=true/\findCls K (.ref C) mc "__init__" = some (.val (.ref f))
 kp:keepIn K (.ref f)=true
def bvF (n:Int):List (Str×V):=putF "at" (.int n) [("word",.str "badvalue")]
def spBV (K:Frag):Sp:=fun vs H Q _=>∃ (e C:Addr) (n:Int),vs=[.ref e,.int n]/\ECls2 K C/\H e=some (excO e C none)/\n.natAbs.log2<1920/\(Str.ofString (toString n)).length≤1000/\
 ∀ da,H da=none->Q .non (upd (upd (upd H e (excO e C (some da))) da (exD da [("word",.str "badvalue")])) da (exD da (bvF n)))
theorem scBV:a77 ["self","at"] ["self","at"] (a03 sBV):=⟨rfl,rfl,rfl,by decide +kernel,rfl,by decide +kernel,by decide +kernel⟩
theorem ok_bv {CX:CXT} {f cS fS:Addr} {fd fdS:FuncData} {dV:Value} (F:Fun K "__init__" "BadValue.__init__" sBV f fd) (T:TxtE K mg) (FS:FunD K "__init__" "ScribeError.__init__" sSE dV fS fdS) (bS:Binds K fdS ["self","words","word"] []) (MS:MkOf K mg "ScribeError" cS fS):FnOk P w K mg base CX 2 f fd ["self","at"] (spBV K):=by
 have GS:FnOk P w K mg base CX0 1 fS fdS ["self","words","word"] (spSE K):=ok_se FS T
 obtain ⟨mc,m1,m2⟩:=MS.rd
 refine F.ok1 scBV (fun vs H Q E h=>?_) (fun cdv A outer s H vs Q E hr h=>?_)
 ·obtain ⟨e,C,n,rfl,_⟩:=h
  rfl
 ·obtain ⟨e,C,n,rfl,EC,he,hn,hl,k⟩:=h
  refine ⟨_,(a05 (ab3 (aq1 (E:=E0) (by rfl) MS.mg MS.sg m1 m2 MS.kp GS hr bS .nil a74 (a00 (pv 0) (a00 (pe_fstr (pf_txt (pf_val (pv 1) pf_nil))) (a00 a65 a01)))))
   (a06 (ps_fldX (B:="ValueError") (newId:="ValueError.__new__") (pv 0) (pv 1) rfl))),?_⟩
  have big:3000≤sizeLine:=by decide
  have e1:(("the values are wrong at " : Str)).length=24:=by decide +kernel
  refine ⟨_,rfl,?_,_,rfl,_,.inr ⟨n,rfl,hn,rfl⟩,?_,?_,e,C,_,_,rfl,EC.e,he,fun da hda=>⟨_,rfl,_,rfl,e,C,rfl,EC.e.x,EC.a,.inr ⟨da,_,?_,?_,?_,k da hda⟩⟩⟩
  all_goals (try rw [Str.empty_append])
  all_goals (try (first|omega|(simp only [Str.length_append,e1];omega)))
  ·rw [a68 (a70 he hda),a02]
  ·rw [a02]
  ·decide
end
section
variable {P:Program} {w:World} {K:PySem.W.Frag} {mg:Str->Option Value} {base:Heap}
def spW (K:Frag) (wd:Str):Sp:=fun vs H Q _=>∃ (e C:Addr) (a:V),vs=[.ref e,a]/\ECls K C/\H e=some (excO e C none)/\∀ da,H da=none->Q .non (upd (upd H e (excO e C (some da))) da (exD da [("word",.str wd)]))
abbrev ah3:Stmt:=inClass (top 5) 0
theorem scBadTest:a77 ["self","words"] ["self","words"] (a03 ah3):=⟨rfl,rfl,rfl,by decide +kernel,rfl,by decide +kernel,by decide +kernel⟩
theorem ok_BadTest {CX:CXT} {f cS fS:Addr} {fd fdS:FuncData} {dV dW:Value} (F:FunD K "__init__" "BadTest.__init__" ah3 dW f fd) (T:TxtE K mg) (FS:FunD K "__init__" "ScribeError.__init__" sSE dV fS fdS) (bS:Binds K fdS ["self","words","word"] []) (MS:MkOf K mg "ScribeError" cS fS):FnOk P w K mg base CX 2 f fd ["self","words"] (spW K "badtest"):=by
 have GS:FnOk P w K mg base CX0 1 fS fdS ["self","words","word"] (spSE K):=ok_se FS T
 obtain ⟨mc,m1,m2⟩:=MS.rd
 refine F.ok1 scBadTest (fun vs H Q E h=>?_) (fun cdv A outer s H vs Q E hr h=>?_)
 ·obtain ⟨e,C,a,rfl,_⟩:=h
  rfl
 ·obtain ⟨e,C,a,rfl,EC,he,k⟩:=h
  refine ⟨_,(a06 (ab3 (aq1 (E:=E0) (by rfl) MS.mg MS.sg m1 m2 MS.kp GS hr bS .nil a74 (a00 (pv 0) (a00 (pv 1) (a00 a65 a01)))))),?_⟩
  exact ⟨_,rfl,_,rfl,e,C,_,_,rfl,EC,he,k⟩
def an0 (H:Hp) (fs:List (Str×V)) (da:Addr) (H':Hp):Prop:=H da=none/\H'=upd H da (exD da fs)
theorem thrown_of {H:Hp} {e da C:Addr} {fs:List (Str×V)} (h1:H e=none) (h2:upd H e (excO e C none) da=none):an0 H fs da (unt (upd (upd (upd H e (excO e C none)) e (excO e C (some da))) da (exD da fs)) e):=by
 have ne:da≠e:=fun q=>by subst q;rw [a02] at h2;cases h2
 rw [a68 ne] at h2
 refine ⟨h2,funext fun b=>?_⟩
 by_cases q:b=e
 ·subst q
  rw [ar4,a68 (Ne.symm ne),h1]
 ·rw [unt_ne q]
  by_cases r:b=da
  ·subst r;rw [a02,a02]
  ·rw [a68 r,a68 q,a68 q,a68 r]
theorem ag2 {H H1:Hp} {e:Addr} (h:Same H H1) (n:H1 e=none):H e=none:=by
 cases z:H e with
 |none=>rfl
 |some o=>have:=h _ _ z;rw [n] at this;cases this
structure WCls (K:Frag) (mg:Str->Option Value) (x:Str) (C f:Addr) (fd:FuncData):Prop where
 b:Binds K fd ["self","words"] []
 mg:mg x=some (.ref C)
 e:ECls K C
 i:findIn K (.ref C) "__init__" = some (some (.ref f))
 n:isFn K (.ref f)=true
end
abbrev Far:Int:=1000000000000000000000000000000
def Asc (x:Str):Prop:=x.cps.all (·<128)=true
section
variable {P:Program} {w:World} {K:PySem.W.Frag} {mg:Str->Option Value} {base:Heap}
def spFar:Sp:=fun vs H Q _=>∃ (p dc:Addr),vs=[.ref p]/\Dr H p dc/\∀ (z:Int) (H':Hp),-Far≤z->z≤Far->Dr H' p dc->But p H H'->Q (.int z) H'
theorem scFar:a77 ["_law_d","_law_number_here"] ["_law_d"] (a03 (top 37)):=⟨rfl,rfl,rfl,by decide +kernel,rfl,by decide +kernel,by decide +kernel⟩
theorem ok_far {f fP:Addr} {fd fdP:FuncData} (F:Fun K "_law_far" "_law_far" (top 37) f fd) (T:Txt K mg) (DP:Def K mg "_law_pick" (top 35) ["_law_d","_law_many"] fP fdP):FnOk P w K mg base CX0 2 f fd ["_law_d"] spFar:=by
 have GP:FnOk P w K mg base CX0 1 fP fdP ["_law_d","_law_many"] ac9:=ab5 DP.F T
 refine F.ok scFar (fun vs H Q E h=>?_) (fun cdv A outer s H vs Q E hr h=>?_)
 ·obtain ⟨p,dc,rfl,_⟩:=h
  rfl
 ·obtain ⟨p,dc,rfl,D,k⟩:=h
  refine ⟨_,(a05
 (a79 (i:=1) scFar.nd rfl (Or.inl rfl) (a81 aa6 (a81 op_pow a04 a04) (a07 GP hr rfl DP.mg DP.F.kp DP.b .nil a74 (a00 (pv 0) (a00 (a81 op_pow a04 a04) a01)))))
 (a06
 (a69 (a80 ac6 (a97 (a00 (pv 1) (a00 (a81 ae0 a04 (pv 1)) a01))) (a07 GP hr rfl DP.mg DP.F.kp DP.b .nil a74 (a00 (pv 0) (a00 a04 a01))) (fun _ _=>rfl))))),?_⟩
  have c1:CPow 10 9:=⟨by decide,by decide,by decide⟩
  have c2:CPow 10 29:=⟨by decide,by decide,by decide⟩
  have p1:(10:Int) ^ (9:Int).toNat=1000000000:=by decide
  have p2:(10:Int) ^ (29:Int).toNat=100000000000000000000000000000:=by decide +kernel
  refine ⟨_,_,rfl,rfl,c1,_,rfl,_,_,rfl,rfl,c2,p,dc,_,rfl,D,by rw [p2];decide,by rw [p2];decide,fun r H1 a1 b1 D1 t1=>⟨_,_,rfl,rfl,?_⟩⟩
  rw [p2] at b1
  rw [p1]
  have z1:1000000000+r≤Far:=by simp only [Far];omega
  refine ⟨_,rfl,_,rfl,_,_,rfl,rfl,(show 2≤sizeLine by decide),fun q1 h1=>?_⟩
  have D2:=D1.new (o:=.lst [.int (1000000000+r),.int (0-(1000000000+r))]) h1
  refine ⟨_,rfl,p,dc,_,rfl,D2,by decide,by decide,fun r2 H2 a2 b2 D3 t2=>?_⟩
  have e1:SqL K H2 q1 [.int (1000000000+r),.int (0-(1000000000+r))]:=D2.seq t2 (SqL.of a02)
  have bt:But p H H2:=t1.trans ((But.new h1).trans t2)
  by_cases h0:r2=0
  ·subst h0
   exact ⟨_,_,_,_,rfl,rfl,e1,rfl,k _ _ (by simp only [Far] at *;omega) z1 D3 bt⟩
  ·obtain rfl:r2=1:=by omega
   exact ⟨_,_,_,_,rfl,rfl,e1,rfl,k _ _ (by simp only [Far] at *;omega) (by simp only [Far] at *;omega) D3 bt⟩
end
theorem occ:∀ c<128,(!(Builtin.Str.occurrences ("abcdefghijklmnopqrstuvwxyz" : Str) ⟨#[c]⟩ 0 ("abcdefghijklmnopqrstuvwxyz" : Str).length 1).isEmpty)=decide (97≤c/\c≤122):=by decide +kernel
section
variable {P:Program} {w:World} {K:PySem.W.Frag} {mg:Str->Option Value} {base:Heap}
def spIsNm:Sp:=fun vs H Q _=>∃ x:Str,vs=[.str x]/\x.length≤50000/\Asc x/\∀ H',Same H H'->Q (.bl (nameB x)) H'
theorem scLN:a77 ["_law_text"] ["_law_text"] (a03 (top 44)):=⟨rfl,rfl,rfl,by decide +kernel,rfl,by decide +kernel,by decide +kernel⟩
theorem at3 (x:Str):nameB x=(decide (1≤x.length) && (decide (x.length≤8) && x.cps.toList.all fun c=>decide (97≤c/\c≤122))):=by
 have h:nameB x=true↔(decide (1≤x.length) && (decide (x.length≤8) && x.cps.toList.all fun c=>decide (97≤c/\c≤122)))=true:=by
  rw [ae8]
  simp only [Bool.and_eq_true,decide_eq_true_eq,List.all_eq_true]
  exact ⟨fun h=>⟨h.lo,h.hi,fun c hc=>h.lc c hc⟩,fun h=>⟨h.1,h.2.1,fun c hc=>h.2.2 c hc⟩⟩
 cases e1:nameB x with
 |true=>exact (h.mp e1).symm
 | false=>
   cases e2:(decide (1≤x.length) && (decide (x.length≤8) && x.cps.toList.all fun c=>decide (97≤c/\c≤122))) with
   |false=>rfl
   |true=>rw [h.mpr e2] at e1;cases e1
theorem ok_isnm {f:Addr} {fd:FuncData} (F:Fun K "_law_is_name" "_law_is_name" (top 44) f fd) (T:Txt K mg):FnOk P w K mg base CX0 1 f fd ["_law_text"] spIsNm:=by
 refine F.ok scLN (fun vs H Q E h=>?_) (fun cdv A outer s H vs Q E hr h=>?_)
 ·obtain ⟨x,rfl,_⟩:=h
  rfl
 ·obtain ⟨x,rfl,hl,ha,k⟩:=h
  have big:50000≤sizeLine:=by decide
  refine ⟨_,(a06
 (a69 (aa5 (al7 af8 af8 a04 (a08 ag1 (by rfl) T.len a86 (a00 (pv 0) a01)) a04) (ac7 (a08 (an6 rfl) (by rfl) T.all bt_all (a00 (ak0 (own:=["_law_sign"]) (js:=[]) (N':=["_law_sign"]) (a89.of (osc:=a03 (top 44)) (N:=["_law_text"]) rfl rfl ⟨rfl,by decide +kernel,by decide +kernel,by decide +kernel,rfl,by decide +kernel⟩) rfl (pi_str (pv 0)) (fun _ _ _ _ _=>(a82 (i:=0) (show List.Nodup (["_law_sign"]:List Str) by decide +kernel) rfl (Or.inl rfl) (Or.inr rfl))) (fun _ _ _ _ _=>ad8) (fun _ _ _ _ _=>(a94 op_in_str (pv 0) a65 rfl))) a01)))))),?_⟩
  rw [at3] at k
  refine ⟨_,rfl,x,rfl,by omega,_,_,rfl,rfl,_,rfl,?_⟩
  by_cases h1:1≤x.length
  ·rw [decide_eq_true h1,Bool.true_and] at k
   refine ifT (by simp;omega) ⟨_,_,rfl,rfl,_,rfl,?_⟩
   by_cases h8:x.length≤8
   ·rw [decide_eq_true h8,Bool.true_and] at k
    refine ifT (by simp;omega) ⟨_,rfl,x,rfl,ha,?_⟩
    have hz:x.cps.size=x.length:=rfl
    refine comp_str (x:=x) (fun i ys σ' H'=>∃ v,σ'=[v]/\H'=H/\ys=((x.cps.toList.take i).map fun c=>V.bl (decide (97≤c/\c≤122)))) (by omega) ⟨none,rfl,rfl,by simp⟩ ?_ ?_
    ·rintro i c ys σ' H' hc hy ⟨v,rfl,rfl,rfl⟩ N hN
     have hc':x.cps.toList[i]?=some c:=by rw [Array.getElem?_toList];exact hc
     have c1:c<128:=by
      have h':=ha
      unfold Asc at h'
      rw [← Array.all_toList,List.all_eq_true] at h'
      simpa using h' c (List.mem_of_getElem? hc')
     refine ⟨_,rfl,_,_,rfl,rfl,?_⟩
     rw [occ c c1]
     refine hN _ _ _ (by simpa using hy) ⟨_,rfl,rfl,?_⟩
     rw [List.take_add_one,hc']
     simp
    ·rintro ys σ' H' hy ⟨v,rfl,rfl,rfl⟩
     rw [List.take_of_length_le (by simp)]
     refine ⟨by rw [List.length_map];have:x.cps.toList.length=x.length:=rfl;omega,fun q hq=>?_⟩
     refine ⟨q,x.cps.toList.map fun c=>decide (97≤c/\c≤122),rfl,?_,?_⟩
     ·have:=SqL.of (K:=K) (H:=upd H' q (.lst (x.cps.toList.map fun c=>V.bl (decide (97≤c/\c≤122))))) (a:=q) (xs:=x.cps.toList.map fun c=>V.bl (decide (97≤c/\c≤122))) a02
      rw [List.map_map]
      exact this
     ·dsimp only
      rw [List.all_map]
      exact k _ (Same.new hq)
   ·rw [decide_eq_false h8,Bool.false_and] at k
    exact ifF (by simp;omega) (k H fun _ _ z=>z)
  ·rw [decide_eq_false h1,Bool.false_and] at k
   exact ifF (by simp;omega) ⟨_,rfl,ifF rfl (k H fun _ _ z=>z)⟩
end
section
variable {P:Program} {w:World} {K:PySem.W.Frag} {mg:Str->Option Value} {base:Heap}
theorem ak1 {x y:Str} (a:Asc x) (b:Asc y):Asc (x++y):=by
 unfold Asc at *
 rw [← Array.all_toList,List.all_eq_true] at *
 intro c hc
 have:(x++y).cps.toList=x.cps.toList++y.cps.toList:=by
  show (x.cps++y.cps).toList=_
  simp
 rw [this] at hc
 rcases List.mem_append.mp hc with h|h
 ·exact a c h
 ·exact b c h
theorem ah0 {x:Str} (a:Asc x) (l u:Option Int):Asc (Txt.slice x l u):=by
 unfold Asc at *
 rw [← Array.all_toList,List.all_eq_true] at *
 exact fun c hc=>a c (slice_sub x l u c hc)
def spOdd:Sp:=fun vs H Q _=>∃ (p dc:Addr) (x:Str),vs=[.ref p,.str x]/\Dr H p dc/\x.length≤500/\Asc x/\∀ (y:Str) (H':Hp),Asc y->y.length≤x.length+8->Dr H' p dc->But p H H'->Q (.str y) H'
theorem scOd:a77 ["_law_d","_law_text","_law_odd"] ["_law_d","_law_text"] (a03 (top 46)):=⟨rfl,rfl,rfl,by decide +kernel,rfl,by decide +kernel,by decide +kernel⟩
theorem ok_odd {f fP fO:Addr} {fd fdP fdO:FuncData} (F:Fun K "_law_odd_name" "_law_odd_name" (top 46) f fd) (T:Txt K mg) (DP:Def K mg "_law_pick" (top 35) ["_law_d","_law_many"] fP fdP) (DO:Def K mg "_law_of" (top 36) ["_law_d","_law_things"] fO fdO) :
 FnOk P w K mg base CX0 3 f fd ["_law_d","_law_text"] spOdd:=by
 have GO:FnOk P w K mg base CX0 2 fO fdO ["_law_d","_law_things"] (spOf K):=aq8 DO.F T DP
 refine F.ok scOd (fun vs H Q E h=>?_) (fun cdv A outer s H vs Q E hr h=>?_)
 ·obtain ⟨p,dc,x,rfl,_⟩:=h
  rfl
 ·obtain ⟨p,dc,x,rfl,D,hl,ha,k⟩:=h
  refine ⟨_,(a05
 (a79 (i:=2) scOd.nd rfl (Or.inl rfl) (a97 (a00 a65 (a00 (a81 a98 (pv 1) a65) (a00 (a81 a98 (aa0 sl_str (pv 1) ab1 (ab2 a04)) a65) (a00 (a81 a98 (aa0 sl_str (pv 1) ab1 (ab2 a04)) a65) (a00 (a81 a98 (aa0 sl_str (pv 1) ab1 (ab2 a04)) a65) (a00 (a81 a98 (aa0 sl_str (pv 1) ab1 (ab2 a04)) a65) (a00 (a81 a98 a65 (aa0 sl_str (pv 1) ab1 (ab2 a04))) a01)))))))))
 (a06
 (a69 (a07 GO hr rfl DO.mg DO.F.kp DO.b .nil a74 (a00 (pv 0) (a00 (pv 2) a01)))))),?_⟩
  have big:1000≤sizeLine:=by decide
  have l1:(("abcdefgh" : Str)).length=8:=by decide +kernel
  have sl:∀ j:Int,(Txt.slice x none (some j)).length≤x.length:=fun j=>Txt.slice_le x none (some j)
  have m:∀ y z:Str,y.length≤x.length->z.length=1->y.length+z.length≤sizeLine:=fun y z h1 h2=>by omega
  have m':∀ y z:Str,y.length≤x.length->z.length=1->z.length+y.length≤sizeLine:=fun y z h1 h2=>by omega
  refine ⟨_,rfl,_,_,rfl,rfl,by omega,?_⟩
  refine ⟨_,rfl,_,rfl,x,_,rfl,rfl,rfl,by omega,_,_,rfl,rfl,m _ ("A" : Str) (sl _) (by decide +kernel),?_⟩
  refine ⟨_,rfl,_,rfl,x,_,rfl,rfl,rfl,by omega,_,_,rfl,rfl,m _ (" " : Str) (sl _) (by decide +kernel),?_⟩
  refine ⟨_,rfl,_,rfl,x,_,rfl,rfl,rfl,by omega,_,_,rfl,rfl,m _ ("1" : Str) (sl _) (by decide +kernel),?_⟩
  refine ⟨_,rfl,_,rfl,x,_,rfl,rfl,rfl,by omega,_,_,rfl,rfl,m _ ("_" : Str) (sl _) (by decide +kernel),?_⟩
  refine ⟨_,rfl,_,rfl,x,_,rfl,rfl,rfl,by omega,_,_,rfl,rfl,m' _ ("{" : Str) (sl _) (by decide +kernel),?_⟩
  refine ⟨(show 7≤sizeLine by decide),fun q hq=>?_⟩
  refine ⟨_,rfl,_,rfl,p,dc,q,_,rfl,D.new hq,SqL.of a02,by simp,by simp,fun v H1 hv D1 b1=>?_⟩
  have ap:∀ y z:Str,(y++z).length=y.length+z.length:=fun y z=>Str.length_append y z
  have one:∀ z:Str,z.length=1->∀ j:Int,(Txt.slice x none (some j)++z).length≤x.length+8/\(z++Txt.slice x none (some j)).length≤x.length+8:=fun z hz j=>by
   have:=sl j
   rw [ap,ap]
   omega
  obtain ⟨y,rfl,y1,y2⟩:∃ y:Str,v=.str y/\Asc y/\y.length≤x.length+8:=by
   simp only [List.mem_cons,List.not_mem_nil,or_false] at hv
   rcases hv with rfl|rfl|rfl|rfl|rfl|rfl|rfl
   ·exact ⟨_,rfl,by unfold Asc;decide +kernel,Nat.zero_le _⟩
   ·exact ⟨_,rfl,ak1 ha (by unfold Asc;decide +kernel),by rw [ap];omega⟩
   ·exact ⟨_,rfl,ak1 (ah0 ha _ _) (by unfold Asc;decide +kernel),(one _ (by decide +kernel) _).1⟩
   ·exact ⟨_,rfl,ak1 (ah0 ha _ _) (by unfold Asc;decide +kernel),(one _ (by decide +kernel) _).1⟩
   ·exact ⟨_,rfl,ak1 (ah0 ha _ _) (by unfold Asc;decide +kernel),(one _ (by decide +kernel) _).1⟩
   ·exact ⟨_,rfl,ak1 (ah0 ha _ _) (by unfold Asc;decide +kernel),(one _ (by decide +kernel) _).1⟩
   ·exact ⟨_,rfl,ak1 (by unfold Asc;decide +kernel) (ah0 ha _ _),(one _ (by decide +kernel) _).2⟩
  exact k y H1 y1 y2 D1 ((But.new hq).trans b1)
end
abbrev Huge:Int:=Far+2
inductive TD:PyData->Prop
 |str {x:Str}:Asc x->x.length≤40->TD (.str x)
 |int {i:Int}:-Huge≤i->i≤Huge->TD (.int i)
 |nil:TD (.tuple [])
 |node {f:Str} {r:List PyData}:Asc f->f.length≤40->r.length≤4->(∀ d∈r,TD d)->TD (.tuple (.str f::r))
def ao7:PyData->Bool
 |.str x=>nameB x
 |_=>false
def numB:PyData->Bool
 |.int i=>decide (-999999≤i) && decide (i≤999999)
 |_=>false
def ag0 (f:Str) (r:List PyData):Bool:=
 if f = "all" then r.isEmpty else if f = "is" then (match r with|[x]=>ao7 x|_=>false)
 else decide (f = "less"∨f = "same") && (match r with|[x,y]=>ao7 x && numB y|_=>false)
def arity (f:Str):Option Nat:=if f = "not" then some 1 else if f = "and" then some 2 else if f = "or" then some 2 else none
def cnt:Nat->PyData->Nat
 |0,_=>0
 |n+1,.tuple (.str f::r)=>if ag0 f r=true then 1 else if arity f=some r.length then (if 0∈r.map (cnt n) then 0 else 1+(r.map (cnt n)).sum) else 0
 |_+1,_=>0
mutual
def a90:PyData->Bool
 |.tuple (.str f::r)=>if f = "and"∨f = "or" then decide (r.length=2) && shapes r else if f = "not" then decide (r.length=1) && shapes r else ag0 f r
 |_=>false
def shapes:List PyData->Bool
 |[]=>true
 |d::r=>a90 d && shapes r
end
mutual
def a93:PyData->Nat
 |.tuple (.str f::r)=>if (arity f).isSome=true then 1+ac4 r else 1
 |_=>1
def ac4:List PyData->Nat
 |[]=>0
 |d::r=>max (a93 d) (ac4 r)
end
mutual
def aa1:PyData->Nat
 |.tuple (.str f::r)=>if (arity f).isSome=true then 1+ad7 r else 1
 |_=>1
def ad7:List PyData->Nat
 |[]=>0
 |d::r=>aa1 d+ad7 r
end
def ad4 (d:PyData):Bool:=a90 d && (decide (a93 d≤5) && decide (aa1 d≤15))
theorem parts_pos:∀ d,1≤aa1 d:=by
 intro d
 unfold aa1
 split
 ·split <;> omega
 ·omega
theorem ad1:∀ d,1≤a93 d:=by
 intro d
 unfold a93
 split
 ·split <;> omega
 ·omega
theorem leaf_arity {f:Str} {r:List PyData} (h:ag0 f r=true):arity f=none:=by
 unfold ag0 at h
 unfold arity
 by_cases h1:f = "all"
 ·subst h1;decide +kernel
 ·rw [if_neg h1] at h
  by_cases h2:f = "is"
  ·subst h2;decide +kernel
  ·rw [if_neg h2,Bool.and_eq_true,decide_eq_true_eq] at h
   rcases h.1 with rfl|rfl <;> decide +kernel
theorem aq6 (k:Nat) (r:List PyData):decide (some k=some r.length)=decide (r.length=k):=by
 simp only [Option.some.injEq,decide_eq_decide]
 exact ⟨fun h=>h.symm,fun h=>h.symm⟩
theorem ae3 {f:Str} {r:List PyData}:a90 (.tuple (.str f::r))=if arity f=none then ag0 f r else decide (arity f=some r.length) && shapes r:=by
 unfold a90
 by_cases h1:f = "and"
 ·subst h1
  rw [show arity "and" = some 2 from by decide +kernel,if_pos (Or.inl rfl),if_neg (show ¬ (some 2=(none:Option Nat)) from nofun),aq6]
 ·by_cases h2:f = "or"
  ·subst h2
   rw [show arity "or" = some 2 from by decide +kernel,if_pos (Or.inr rfl),if_neg (show ¬ (some 2=(none:Option Nat)) from nofun),aq6]
  ·rw [if_neg (by simp [h1,h2])]
   by_cases h3:f = "not"
   ·subst h3
    rw [show arity "not" = some 1 from by decide +kernel,if_pos rfl,if_neg (show ¬ (some 1=(none:Option Nat)) from nofun),aq6]
   ·have ha:arity f=none:=by unfold arity;rw [if_neg h3,if_neg h1,if_neg h2]
    rw [ha,if_neg h3,if_pos rfl]
theorem cnts {n:Nat} (ih:∀ d,cnt n d=if a90 d=true/\a93 d≤n then aa1 d else 0):∀ r:List PyData,(if 0∈r.map (cnt n) then 0 else 1+(r.map (cnt n)).sum)=if shapes r=true/\ac4 r≤n then 1+ad7 r else 0
 |[]=>by simp [shapes,ac4,ad7]
 | d::r=>by
   have h:=cnts ih r
   have hp:=parts_pos d
   rw [List.map_cons,List.sum_cons]
   have es:shapes (d::r)=(a90 d && shapes r):=rfl
   have ed:ac4 (d::r)=max (a93 d) (ac4 r):=rfl
   have ep:ad7 (d::r)=aa1 d+ad7 r:=rfl
   by_cases hd:a90 d=true/\a93 d≤n
   ·have e:cnt n d=aa1 d:=by rw [ih,if_pos hd]
    by_cases hr:shapes r=true/\ac4 r≤n
    ·rw [if_pos hr] at h
     have h0:¬ 0∈r.map (cnt n):=fun z=>by rw [if_pos z] at h;omega
     rw [if_neg h0] at h
     rw [if_neg (by rw [List.mem_cons,not_or,e];exact ⟨by omega,h0⟩),if_pos ⟨by rw [es,hd.1,hr.1];rfl,by rw [ed];omega⟩,e,ep]
     omega
    ·rw [if_neg hr] at h
     have h0:0∈r.map (cnt n):=by
      by_cases z:0∈r.map (cnt n)
      ·exact z
      ·rw [if_neg z] at h;omega
     rw [if_pos (List.mem_cons_of_mem _ h0),if_neg]
     rintro ⟨z1,z2⟩
     rw [es,Bool.and_eq_true] at z1
     rw [ed] at z2
     exact hr ⟨z1.2,by omega⟩
   ·have e:cnt n d=0:=by rw [ih,if_neg hd]
    rw [if_pos (by rw [e];exact List.mem_cons_self ..),if_neg]
    rintro ⟨z1,z2⟩
    rw [es,Bool.and_eq_true] at z1
    rw [ed] at z2
    exact hd ⟨z1.1,by omega⟩
theorem cnt_eq:∀ (n:Nat) (d:PyData),cnt n d=if a90 d=true/\a93 d≤n then aa1 d else 0
 | 0,d=>by
   have:=ad1 d
   rw [if_neg (by omega)]
   rfl
 | n+1,d=>by
   have ih:=cnt_eq n
   by_cases hd:∃ f r,d=.tuple (.str f::r)
   ·obtain ⟨f,r,rfl⟩:=hd
    have e1:cnt (n+1) (.tuple (.str f::r))=if ag0 f r=true then 1 else if arity f=some r.length then (if 0∈r.map (cnt n) then 0 else 1+(r.map (cnt n)).sum) else 0:=rfl
    have e2:a93 (.tuple (.str f::r))=if (arity f).isSome=true then 1+ac4 r else 1:=rfl
    have e3:aa1 (.tuple (.str f::r))=if (arity f).isSome=true then 1+ad7 r else 1:=rfl
    have e4:=@ae3 f r
    by_cases hl:ag0 f r=true
    ·have ha:=leaf_arity hl
     rw [ha] at e2 e3 e4
     rw [e1,if_pos hl,if_pos ⟨by rw [e4,if_pos rfl];exact hl,by rw [e2];simp⟩,e3]
     rfl
    ·rw [e1,if_neg hl]
     by_cases ha:arity f=none
     ·rw [if_neg (by rw [ha];nofun),if_neg]
      rintro ⟨q,_⟩
      rw [e4,if_pos ha] at q
      exact hl q
     ·obtain ⟨k,hk⟩:=Option.ne_none_iff_exists'.mp ha
      rw [hk] at e2 e3 e4 ⊢
      rw [if_neg (show ¬ (some k=(none:Option Nat)) from nofun)] at e4
      by_cases hkr:k=r.length
      ·subst hkr
       rw [if_pos rfl,cnts ih r]
       by_cases z:shapes r=true/\ac4 r≤n
       ·rw [if_pos z,if_pos ⟨by rw [e4,z.1];simp,by rw [e2];simp;omega⟩,e3]
        rfl
       ·rw [if_neg z,if_neg]
        rintro ⟨q1,q2⟩
        rw [e4] at q1
        rw [e2] at q2
        simp at q1 q2
        exact z ⟨q1,by omega⟩
      ·rw [if_neg (by simpa using hkr),if_neg]
       rintro ⟨q,_⟩
       rw [e4] at q
       simp [hkr] at q
   ·have e1:cnt (n+1) d=0:=by
     unfold cnt
     split
     ·omega
     ·exact absurd ⟨_,_,rfl⟩ hd
     ·rfl
    have e2:a90 d=false:=by
     unfold a90
     split
     ·exact absurd ⟨_,_,rfl⟩ hd
     ·rfl
    rw [e1,e2,if_neg (by simp)]
theorem test_eq (d:PyData):(decide (1≤cnt 5 d) && decide (cnt 5 d≤15))=ad4 d:=by
 have hp:=parts_pos d
 rw [cnt_eq]
 unfold ad4
 by_cases h:a90 d=true/\a93 d≤5
 ·rw [if_pos h,h.1,decide_eq_true h.2]
  simp [hp]
 ·rw [if_neg h]
  have:(a90 d && decide (a93 d≤5))=false:=by
   rw [← Bool.not_eq_true,Bool.and_eq_true,decide_eq_true_eq]
   exact h
  rw [← Bool.and_assoc,this]
  rfl
section
variable {P:Program} {w:World} {K:PySem.W.Frag} {mg:Str->Option Value} {base:Heap}
def spIw (K:Frag):Sp:=fun vs H Q _=>∃ (x:V) (d:PyData),vs=[x]/\Rep K H x d/\TD d/\Q (.bl (ao7 d)) H
theorem scIw:a77 ["thing"] ["thing"] (a03 (top 24)):=⟨rfl,rfl,rfl,by decide +kernel,rfl,by decide +kernel,by decide +kernel⟩
theorem ok_iw {f fN:Addr} {fd fdN:FuncData} (F:Fun K "is_word" "is_word" (top 24) f fd) (T:Txt K mg) (TK:TxtK mg) (DN:Def K mg "is_name" (top 14) ["text"] fN fdN):FnOk P w K mg base CX0 2 f fd ["thing"] (spIw K):=by
 have GN:FnOk P w K mg base CX0 1 fN fdN ["text"] au0:=ok_isname DN.F T TK
 refine F.ok scIw (fun vs H Q E h=>?_) (fun cdv A outer s H vs Q E hr h=>?_)
 ·obtain ⟨x,d,rfl,_⟩:=h
  rfl
 ·obtain ⟨x,d,rfl,rd,td,k⟩:=h
  refine ⟨_,(a06 (a69 (aa5 (a08 a88 (by rfl) T.isinstance a76 (a00 (pv 0) (a00 (ac5 rfl T.str al5) a01))) (ac7 (a07 GN hr rfl DN.mg DN.F.kp DN.b .nil a74 (a00 (pv 0) a01)))))),?_⟩
  cases td with
  | @str y a l=>
    cases rd
    exact ⟨_,rfl,_,_,_,_,rfl,.str y,rfl,_,rfl,ifT rfl ⟨_,rfl,y,rfl,Nat.le_trans l (by decide),k⟩⟩
  | @int i a b=>
    cases rd
    exact ⟨_,rfl,_,_,_,_,rfl,.int i,rfl,_,rfl,ifF rfl k⟩
  |nil=>exact ⟨_,rfl,_,_,_,_,rfl,rd,rfl,_,rfl,ifF rfl k⟩
  |node a l n z=>exact ⟨_,rfl,_,_,_,_,rfl,rd,rfl,_,rfl,ifF rfl k⟩
def spNb (K:Frag):Sp:=fun vs H Q _=>∃ (x:V) (d:PyData),vs=[x]/\Rep K H x d/\TD d/\Q (.bl (numB d)) H
theorem scNb:a77 ["thing"] ["thing"] (a03 (top 25)):=⟨rfl,rfl,rfl,by decide +kernel,rfl,by decide +kernel,by decide +kernel⟩
theorem ok_nb {f:Addr} {fd:FuncData} (F:Fun K "is_number" "is_number" (top 25) f fd) (T:Txt K mg) (TK:TxtK mg):FnOk P w K mg base CX0 1 f fd ["thing"] (spNb K):=by
 refine F.ok scNb (fun vs H Q E h=>?_) (fun cdv A outer s H vs Q E hr h=>?_)
 ·obtain ⟨x,d,rfl,_⟩:=h
  rfl
 ·obtain ⟨x,d,rfl,rd,td,k⟩:=h
  obtain ⟨tl,ml⟩:=TK.lim
  refine ⟨_,(a06 (a69 (aa5 (a08 a88 (by rfl) T.isinstance a76 (a00 (pv 0) (a00 (ac5 rfl T.int ao2) a01))) (aa5 (pe_not (a08 a88 (by rfl) T.isinstance a76 (a00 (pv 0) (a00 (ac5 rfl T.bool am6) a01)))) (ac7 (al7 af8 af8 (aq9 ai8 (ac1 (v:=.int 999999) rfl ml ⟨_,rfl⟩)) (pv 0) (ac1 (v:=.int 999999) rfl ml ⟨_,rfl⟩))))))),?_⟩
  cases td with
  | @int i a b=>
    cases rd
    refine ⟨_,rfl,_,_,_,_,rfl,.int i,rfl,_,rfl,ifT rfl ⟨_,rfl,_,_,_,_,rfl,.int i,rfl,_,rfl,_,rfl,ifT rfl ?_⟩⟩
    exact EvE.chain (EvE.neg EvE.con) (EvE.var rfl) EvE.con EvR.i0 EvR.i0 _ k
  | @str y a l=>
    cases rd
    exact ⟨_,rfl,_,_,_,_,rfl,.str y,rfl,_,rfl,ifF rfl k⟩
  |nil=>exact ⟨_,rfl,_,_,_,_,rfl,rd,rfl,_,rfl,ifF rfl k⟩
  |node a l n z=>exact ⟨_,rfl,_,_,_,_,rfl,rd,rfl,_,rfl,ifF rfl k⟩
abbrev dW:List (Str×PyData):=[("not",.int 1),("and",.int 2),("or",.int 2)]
abbrev dS:List (Str×PyData):=[("less",.str "<"),("same",.str "=")]
structure Tabs (K:Frag) (mg:Str->Option Value) (aW aS:Addr):Prop where
 mw:mg "WITHIN" = some (.ref aW)
 ms:mg "SIGN_OF" = some (.ref aS)
 kw:TabK K aW dW
 ks:TabK K aS dS
theorem tab_w (f:Str):tabV dW f=(arity f).map fun n=>V.int (n:Nat):=by
 unfold tabV arity
 show ((if _ then _ else if _ then _ else if _ then _ else none:Option PyData)).map flV=_
 by_cases h1:f = "not"
 ·subst h1;rfl
 ·by_cases h2:f = "and"
  ·subst h2;rfl
  ·by_cases h3:f = "or"
   ·subst h3;rfl
   ·simp [h1,h2,h3]
theorem tab_s (f:Str):tabV dS f=if f = "less" then some (.str "<") else if f = "same" then some (.str "=") else none:=by
 unfold tabV
 show ((if _ then _ else if _ then _ else none:Option PyData)).map flV=_
 by_cases h1:f = "less"
 ·subst h1;rfl
 ·by_cases h2:f = "same"
  ·subst h2;rfl
  ·simp [h1,h2]
def spLf (K:Frag):Sp:=fun vs H Q _=>∃ (a:Addr) (f:Str) (r:List PyData),vs=[.ref a]/\Rep K H (.ref a) (.tuple (.str f::r))/\TD (.tuple (.str f::r))/\Q (.bl (ag0 f r)) H
theorem scLf:a77 ["test","form"] ["test"] (a03 (top 26)):=⟨rfl,rfl,rfl,by decide +kernel,rfl,by decide +kernel,by decide +kernel⟩
theorem ok_lf {f fW fN fI aW aS:Addr} {fd fdW fdN fdI:FuncData} (F:Fun K "is_leaf" "is_leaf" (top 26) f fd) (T:Txt K mg) (TK:TxtK mg) (TB:Tabs K mg aW aS) (DI:Def K mg "is_name" (top 14) ["text"] fI fdI) (DW:Def K mg "is_word" (top 24) ["thing"] fW fdW) (DN:Def K mg "is_number" (top 25) ["thing"] fN fdN):FnOk P w K mg base CX0 3 f fd ["test"] (spLf K):=by
 have GW:FnOk P w K mg base CX0 2 fW fdW ["thing"] (spIw K):=ok_iw DW.F T TK DI
 have GN:FnOk P w K mg base CX0 1 fN fdN ["thing"] (spNb K):=ok_nb DN.F T TK
 refine F.ok scLf (fun vs H Q E h=>?_) (fun cdv A outer s H vs Q E hr h=>?_)
 ·obtain ⟨a,f,r,rfl,_⟩:=h
  rfl
 ·obtain ⟨a,f,r,rfl,rd,td,k⟩:=h
  have hr1:Room 1 _:=hr.mono (by decide)
  refine ⟨_,(a05 (a79 (i:=1) scLf.nd rfl (Or.inl rfl) (a80 a78 (pv 0) a04 (fun _ _=>rfl)))
   (a05 (a84 (a67 a85 (pv 1) a65 (a72 _)) (a06 (a69 (a94 a85 (a08 a66 (by rfl) T.len a86 (a00 (pv 0) a01)) a04 (a72 _)))) a73)
   (a05 (a84 (a67 a85 (pv 1) a65 (a72 _)) (a06 (a69 (aa5 (a94 a85 (a08 a66 (by rfl) T.len a86 (a00 (pv 0) a01)) a04 (a72 _)) (ac7 (a07 GW hr rfl DW.mg DW.F.kp DW.b .nil a74 (a00 (a80 a78 (pv 0) a04 (fun _ _=>rfl)) a01)))))) a73)
   (a06 (a69 (aa5 (a94 op_inTab (pv 1) (ac1 (v:=.ref aS) rfl TB.ms rfl) rfl) (aa5 (a94 a85 (a08 a66 (by rfl) T.len a86 (a00 (pv 0) a01)) a04 (a72 _)) (aa5 (a07 GW hr rfl DW.mg DW.F.kp DW.b .nil a74 (a00 (a80 a78 (pv 0) a04 (fun _ _=>rfl)) a01)) (ac7 (a07 GN hr1 rfl DN.mg DN.F.kp DN.b .nil a74 (a00 (a80 a78 (pv 0) a04 (fun _ _=>rfl)) a01))))))))))),?_⟩
  cases td with
  |node af lf nr tr=>
  cases rd with
  |@tup _ xs _ sq rs=>
  obtain ⟨x0,ys,rfl⟩:∃ x0 ys,xs=x0::ys:=by cases rs;exact ⟨_,_,rfl⟩
  obtain ⟨r0,rt⟩:Rep K H x0 (.str f)/\Reps K H ys r:=by cases rs with|cons a b=>exact ⟨a,b⟩
  cases r0
  have hl:=rt.length
  refine ⟨_,rfl,a,_,_,_,rfl,rfl,sq,a09 (j:=0) rfl,_,rfl,rfl,_,rfl,?_⟩
  unfold ag0 at k
  by_cases h1:f = "all"
  ·subst h1
   rw [if_pos rfl] at k
   refine ifT (by simp) ⟨_,rfl,a,_,rfl,.inr sq,rfl,?_⟩
   have e:decide (V.int ((V.str "all"::ys).length:Nat)=V.int 1)=r.isEmpty:=by
    rw [Bool.eq_iff_iff,decide_eq_true_eq,List.isEmpty_iff,List.length_cons,V.int.injEq]
    constructor
    ·intro h
     exact List.length_eq_zero_iff.mp (by omega)
    ·rintro rfl
     simp at hl
     simp [hl]
   rw [e]
   exact k
  ·rw [if_neg h1] at k
   refine ifF (by simp [h1]) ⟨_,rfl,rfl,_,rfl,?_⟩
   by_cases h2:f = "is"
   ·subst h2
    rw [if_pos rfl] at k
    refine ifT (by simp) ⟨_,rfl,a,_,rfl,.inr sq,rfl,_,rfl,?_⟩
    match r,ys,rt,k,hl with
    |[],[],_,k,_=>exact ifF (by simp) k
    |[d],[y],.cons ry .nil,k,_=>exact ifT (by simp) ⟨_,rfl,a,_,_,_,rfl,rfl,sq,a09 (j:=1) rfl,y,d,rfl,ry,tr d (List.mem_cons_self ..),k⟩
    |_::_::_,_::_::_,_,k,_=>exact ifF (by simp;omega) k
   ·rw [if_neg h2] at k
    refine ifF (by simp [h2]) ⟨_,rfl,f,aS,dS,rfl,rfl,TB.ks,_,rfl,?_⟩
    have e:(if false=true then !(tabV dS f).isSome else (tabV dS f).isSome)=decide (f = "less"∨f = "same"):=by
     rw [tab_s]
     by_cases q1:f = "less"
     ·simp [q1]
     ·by_cases q2:f = "same"
      ·rw [if_neg q1,if_pos q2];simp [q2]
      ·simp [q1,q2]
    rw [e]
    by_cases h3:f = "less"∨f = "same"
    ·rw [decide_eq_true h3,Bool.true_and] at k
     refine ifT (by simp [h3]) ⟨_,rfl,a,_,rfl,.inr sq,rfl,_,rfl,?_⟩
     match r,ys,rt,k,hl with
     |[],[],_,k,_=>exact ifF (by simp) k
     |[d],[y],_,k,_=>exact ifF (by simp) k
     | [d,d2],[y,y2],.cons ry (.cons ry2 .nil),k,_=>
       refine ifT (by simp) ⟨_,rfl,a,_,_,_,rfl,rfl,sq,a09 (j:=1) rfl,y,d,rfl,ry,tr d (List.mem_cons_self ..),_,rfl,?_⟩
       have k:Q (.bl (ao7 d && numB d2)) H:=k
       cases hw:ao7 d with
       |false=>rw [hw] at k;exact ifF rfl k
       | true=>
         rw [hw] at k
         exact ifT rfl ⟨_,rfl,a,_,_,_,rfl,rfl,sq,a09 (j:=2) rfl,y2,d2,rfl,ry2,tr d2 (List.mem_cons_of_mem _ (List.mem_cons_self ..)),k⟩
     |_::_::_::_,_::_::_::_,_,k,_=>exact ifF (by simp;omega) k
    ·rw [decide_eq_false h3,Bool.false_and] at k
     exact ifF (by simp [h3]) k
end
theorem am0 {f:Str} {k:Nat} (h:arity f=some k):1≤k/\k≤2:=by
 unfold arity at h
 split at h
 ·cases h;omega
 ·split at h
  ·cases h;omega
  ·split at h
   ·cases h;omega
   ·cases h
theorem cnt_lt:∀ (n:Nat) (d:PyData),cnt n d+1≤2 ^ n
 |0,_=>by simp [cnt]
 | n+1,d=>by
   have ih:=cnt_lt n
   have p:1≤2 ^ n:=Nat.one_le_two_pow
   rw [Nat.pow_succ]
   by_cases hd:∃ f r,d=.tuple (.str f::r)
   ·obtain ⟨f,r,rfl⟩:=hd
    show (if ag0 f r=true then 1 else if arity f=some r.length then (if 0∈r.map (cnt n) then 0 else 1+(r.map (cnt n)).sum) else 0)+1≤_
    split
    ·omega
    ·split
     ·rename_i h
      split
      ·omega
      ·have a:=am0 h
       match r,a with
       |[x],_=>have:=ih x;simp;omega
       |[x,y],_=>have:=ih x;have:=ih y;simp;omega
       |_::_::_::_,a=>simp at a
       |[],a=>simp at a
     ·omega
   ·have e:cnt (n+1) d=0:=by
     unfold cnt
     split
     ·omega
     ·exact absurd ⟨_,_,rfl⟩ hd
     ·rfl
    omega
theorem sum_cast (g:PyData->Nat) (r:List PyData):(r.map fun d=>((g d:Nat):Int)).sum=(((r.map g).sum:Nat):Int):=by
 induction r with
 |nil=>rfl
 |cons d r ih=>rw [List.map_cons,List.map_cons,List.sum_cons,List.sum_cons,ih];omega
section
variable {P:Program} {w:World} {K:PySem.W.Frag} {mg:Str->Option Value} {base:Heap}
def spCp (K:Frag) (n:Nat):Sp:=fun vs H Q _=>∃ (x:V) (d:PyData),vs=[x,.int (n:Nat)]/\Rep K H x d/\TD d/\∀ H',Same H H'->Q (.int (cnt n d:Nat)) H'
abbrev NCp:List Str:=["thing","deep","counts"]
theorem scCp:a77 NCp ["thing","deep"] (a03 (top 27)):=⟨rfl,rfl,rfl,by decide +kernel,rfl,by decide +kernel,by decide +kernel⟩
theorem cut1 {x:V} {xs:List V}:cutV (x::xs) (some 1) none=xs:=by
 simp [cutV,HT.sIx]
theorem ok_cp {f fL fW fN fI aW aS:Addr} {fd fdL fdW fdN fdI:FuncData} (DC:Def K mg "count_parts" (top 27) ["thing","deep"] f fd) (T:Txt K mg) (hsum:mg "sum" = none) (TK:TxtK mg) (TB:Tabs K mg aW aS) (DI:Def K mg "is_name" (top 14) ["text"] fI fdI) (DW:Def K mg "is_word" (top 24) ["thing"] fW fdW) (DN:Def K mg "is_number" (top 25) ["thing"] fN fdN)
 (DL:Def K mg "is_leaf" (top 26) ["test"] fL fdL) (n:Nat) (hn5:n≤20):FnOk P w K mg base CX0 (n+4) f fd ["thing","deep"] (spCp K n):=by
 have GL:FnOk P w K mg base CX0 3 fL fdL ["test"] (spLf K):=ok_lf DL.F T TK TB DI DW DN
 have main:∀ m k:Nat,m≤20->(∀ n,n+1=m->FnOk P w K mg base CX0 (n+4) f fd ["thing","deep"] (spCp K n))->FnOk P w K mg base CX0 (m+4) f fd ["thing","deep"] (spCp K m):=by
  intro m k0 hm GC
  refine DC.F.ok scCp (fun vs H Q E h=>?_) (fun cdv A outer s H vs Q E hr h=>?_)
  ·obtain ⟨x,d,rfl,_⟩:=h
   rfl
  ·obtain ⟨x,d,rfl,rd,td,k⟩:=h
   have hr3:Room 3 _:=hr.mono (by omega)
   have GC':FnOk P w K mg base CX0 (m+3) f fd ["thing","deep"] (fun vs H Q E=>∃ n,n+1=m/\spCp K n vs H Q E):=by
    match m,GC with
    |0,_=>exact ⟨fun _ _ _ _ ⟨n,e,_⟩=>by omega,fun _ _ _ _ _ _ _ _ _ _ _ _ _ ⟨n,e,_⟩=>by omega⟩
    | m+1,GC=>
      have G:=GC m rfl
      exact ⟨fun vs H Q E ⟨n,e,h⟩=>by cases e;exact G.1 vs H Q E h,fun a1 a2 a3 a4 a5 a6 a7 a8 a9 a10 a11 a12 a13 ⟨n,e,h⟩=>by cases e;exact G.2 a1 a2 a3 a4 a5 a6 a7 a8 a9 a10 a11 a12 a13 h⟩
   refine ⟨_,(a05 (a84 (PW.pt (ap3 (a67 a85 (pv 1) a04 (a72 _)) (ap3 (af6 (ac8 (a08 a88 (by rfl) T.isinstance a76 (a00 (pv 0) (a00 (ac5 rfl T.tuple ac2) a01))))) (ai1 (a67 a85 (a08 a66 (by rfl) T.len a86 (a00 (pv 0) a01)) a04 (a72 _)))))) (a06 (a69 a04)) a73)
    (a05 (a84 (ac8 (a07 GL hr3 rfl DL.mg DL.F.kp DL.b .nil a74 (a00 (pv 0) a01))) (a06 (a69 a04)) a73)
    (a05 (a84 (a67 op_ne (pe_tabGet (ac1 (v:=.ref aW) rfl TB.mw rfl) (a80 a78 (pv 0) a04 (fun _ _=>rfl)) ⟨rfl,rfl,rfl,rfl⟩) (a81 ae0 (a08 a66 (by rfl) T.len a86 (a00 (pv 0) a01)) a04) (a72 _)) (a06 (a69 a04)) a73)
    (a05 (af0 (g:=af9 0) (i:=2) (own:=["part"]) (js:=[1]) (N':=["part","deep"]) (a89.of (osc:=a03 (top 27)) (N:=NCp) rfl rfl ⟨rfl,by decide +kernel,by decide +kernel,by decide +kernel,rfl,by decide +kernel⟩) rfl scCp.nd rfl rfl (al2 (aa0 af3 (pv 0) (ab2 a04) ab1)) (fun _ _ _ _ _=>(a82 (i:=0) (show List.Nodup (["part","deep"]:List Str) by decide +kernel) rfl (Or.inl rfl) (Or.inr rfl))) (fun _ _ _ _ _=>ad8) (fun _ _ _ _ _=>a07 GC' hr rfl DC.mg DC.F.kp DC.b .nil a74 (a00 (pv 0) (a00 (a81 ae0 (pv 1) a04) a01))))
    (a06 (a69 (ad9 (a67 ad2 a04 (pv 2) rfl) a04 (a81 aa6 a04 (a08 (call_sumL rfl) (by rfl) hsum bt_sum (a00 (pv 2) a01)))))))))),?_⟩
   refine ⟨_,rfl,rfl,_,rfl,?_⟩
   by_cases h0:m=0
   ·subst h0
    exact ifT (by simp) (ifT rfl (k _ (Same.refl _)))
   refine ifF (by simp [h0]) ?_
   obtain ⟨n,rfl⟩:∃ n,m=n+1:=⟨m-1,by omega⟩
   cases td with
   |str a l=>cases rd;exact ⟨_,rfl,_,_,_,_,rfl,.str _,rfl,_,rfl,ifT rfl (ifT rfl (k _ (Same.refl _)))⟩
   |int a b=>cases rd;exact ⟨_,rfl,_,_,_,_,rfl,.int _,rfl,_,rfl,ifT rfl (ifT rfl (k _ (Same.refl _)))⟩
   | nil=>
     cases rd with
     |@tup a xs _ sq rs=>
     cases rs
     exact ⟨_,rfl,_,_,_,_,rfl,.tup sq .nil,rfl,_,rfl,ifF rfl ⟨_,rfl,a,_,rfl,.inr sq,rfl,_,rfl,ifT (by simp) (k _ (Same.refl _))⟩⟩
   |@node f r af lf nr tr=>
   have rd0:=rd
   cases rd with
   |@tup a xs _ sq rs=>
   obtain ⟨x0,ys,rfl⟩:∃ x0 ys,xs=x0::ys:=by cases rs;exact ⟨_,_,rfl⟩
   obtain ⟨r0,rt⟩:Rep K H x0 (.str f)/\Reps K H ys r:=by cases rs with|cons a b=>exact ⟨a,b⟩
   cases r0
   have hl:=rt.length
   refine ⟨_,rfl,_,_,_,_,rfl,rd0,rfl,_,rfl,ifF rfl ⟨_,rfl,a,_,rfl,.inr sq,rfl,_,rfl,ifF (by simp;omega) ?_⟩⟩
   refine ⟨_,rfl,a,f,r,rfl,rd0,.node af lf nr tr,_,rfl,?_⟩
   have e1:cnt (n+1) (.tuple (.str f::r))=if ag0 f r=true then 1 else if arity f=some r.length then (if 0∈r.map (cnt n) then 0 else 1+(r.map (cnt n)).sum) else 0:=rfl
   rw [e1] at k
   by_cases hlf:ag0 f r=true
   ·rw [if_pos hlf] at k
    rw [hlf]
    exact ifT rfl (k _ (Same.refl _))
   rw [if_neg hlf] at k
   rw [Bool.eq_false_iff.mpr hlf]
   refine ifF rfl ?_
   refine ⟨aW,dW,rfl,TB.kw,_,rfl,a,_,_,_,rfl,rfl,sq,a09 (j:=0) rfl,f,rfl,_,rfl,a,_,rfl,.inr sq,_,_,rfl,rfl,?_⟩
   rw [tab_w]
   by_cases ha:arity f=some r.length
   ·rw [if_pos ha] at k
    rw [ha]
    refine ⟨rfl,_,rfl,ifF (by simp;omega) ?_⟩
    refine ⟨_,rfl,1,rfl,a,_,rfl,sq,(fun e=>?_),fun p hp=>?_⟩
    ·rw [cut1] at e
     have:=congrArg List.length e
     simp at this
    ·rw [cut1]
     have sp:SqT K (upd H p (.tup ys)) p ys:=SqT.of a02
     have s1:Same H (upd H p (.tup ys)):=Same.new hp
     generalize upd H p (.tup ys)=H1 at sp s1 ⊢
     refine ⟨p,rfl,⟨_,sp⟩,?_⟩
     refine ai6 (K:=K) (a:=p) (xs:=ys) (fun i zs σ' H'=>(∃ v,σ'=[v,some (.int (n+1:Nat))])/\Same H1 H'/\zs=((r.take i).map fun d=>V.int (cnt n d:Nat))) (Nat.le_trans (show ys.length≤20 by omega) (by decide)) ⟨⟨none,rfl⟩,Same.refl _,rfl⟩ (fun i zs σ' H' _ ⟨_,s2,_⟩=>s2.tup sp) ?_ ?_
     ·rintro i y zs σ' H2 hy hzs ⟨⟨v,rfl⟩,s2,rfl⟩ N hN
      obtain ⟨d,hd,ry⟩:=rt.get' hy
      refine ⟨_,rfl,_,rfl,_,_,rfl,rfl,n,rfl,y,d,?_,ry.same (s1.trans s2),tr d (List.mem_of_getElem? hd),fun H3 s3=>?_⟩
      ·show [y,V.int ((n+1:Nat)-1)]=[y,V.int (n:Nat)]
       rw [show (((n+1:Nat):Int)-1)=(n:Nat) by omega]
      ·exact hN _ _ _ (by rw [List.length_append,hzs];rfl) ⟨⟨_,rfl⟩,s2.trans s3,by rw [List.take_add_one,hd];simp⟩
     ·rintro zs σ' H2 hzs ⟨⟨v,rfl⟩,s2,rfl⟩
      rw [List.take_of_length_le (by omega)]
      have lr:(r.map fun d=>V.int (cnt n d:Nat)).length≤20:=by rw [List.length_map];omega
      refine ⟨Nat.le_trans lr (by decide),fun q hq=>?_⟩
      have s3:Same H (upd H2 q (.lst (r.map fun d=>V.int (cnt n d:Nat)))):=(s1.trans s2).trans (Same.new hq)
      have sq2:SqL K (upd H2 q (.lst (r.map fun d=>V.int (cnt n d:Nat)))) q (r.map fun d=>V.int (cnt n d:Nat)):=SqL.of a02
      generalize upd H2 q (.lst (r.map fun d=>V.int (cnt n d:Nat)))=H3 at s3 sq2 ⊢
      refine ⟨_,rfl,q,_,rfl,.inl sq2,rfl,by simp [as9],_,rfl,?_⟩
      have ein:(if false=true then !inV (.int 0) (r.map fun d=>V.int (cnt n d:Nat)) else inV (.int 0) (r.map fun d=>V.int (cnt n d:Nat)))=decide (0∈r.map (cnt n)):=by
       show inV (.int 0) (r.map fun d=>V.int (cnt n d:Nat))=_
       rw [Bool.eq_iff_iff,decide_eq_true_eq]
       unfold inV
       simp only [List.any_eq_true,List.mem_map]
       constructor
       ·rintro ⟨_,⟨d,hd,rfl⟩,he⟩
        exact ⟨d,hd,by simpa [eqV] using he⟩
       ·rintro ⟨d,hd,he⟩
        exact ⟨_,⟨d,hd,rfl⟩,by simp [he,eqV]⟩
      rw [ein]
      by_cases hz:0∈r.map (cnt n)
      ·rw [if_pos hz] at k
       rw [decide_eq_true hz]
       exact ifT rfl (k _ s3)
      ·rw [if_neg hz] at k
       rw [decide_eq_false hz]
       refine ifF rfl ?_
       refine ⟨_,rfl,q,r.map fun d=>((cnt n d:Nat):Int),rfl,by rw [List.map_map];exact sq2,by rw [List.length_map];omega,fun x hx=>?_,_,_,rfl,rfl,?_⟩
       ·obtain ⟨d,_,rfl⟩:=List.mem_map.mp hx
        have:=cnt_lt n d
        have p20:2 ^ n≤2 ^ 20:=Nat.pow_le_pow_right (by decide) (by omega)
        have:(2:Nat) ^ 20=1048576:=by decide
        omega
       ·have es:=sum_cast (cnt n) r
        rw [es]
        have:=k _ s3
        rw [show ((1+(r.map (cnt n)).sum:Nat):Int)=1+(((r.map (cnt n)).sum:Nat):Int) by omega] at this
        exact this
   ·rw [if_neg ha] at k
    cases hb:arity f with
    |none=>exact ⟨rfl,_,rfl,ifT rfl (k _ (Same.refl _))⟩
    | some j=>
      refine ⟨rfl,_,rfl,ifT ?_ (k _ (Same.refl _))⟩
      have:¬ j=r.length:=fun e=>ha (by rw [hb,e])
      simp
      omega
 induction n with
 |zero=>exact main 0 0 (by omega) (fun n e=>by omega)
 |succ n ih=>exact main (n+1) 0 hn5 (fun n' e=>by cases e;exact ih (by omega))
end
theorem ap5:∀ {r:List PyData} {d:PyData},shapes r=true->d∈r->a90 d=true
 | e::r,d,h,m=>by
   have h:(a90 e && shapes r)=true:=h
   rw [Bool.and_eq_true] at h
   rcases List.mem_cons.mp m with rfl|m
   ·exact h.1
   ·exact ap5 h.2 m
theorem deeps_mem:∀ {r:List PyData} {d:PyData},d∈r->a93 d≤ac4 r
 | e::r,d,m=>by
   have h:ac4 (e::r)=max (a93 e) (ac4 r):=rfl
   rcases List.mem_cons.mp m with rfl|m
   ·omega
   ·have:=deeps_mem m
    omega
structure Node (n:Nat) (f:Str) (r:List PyData):Prop where
 ar:arity f=some r.length
 sh:∀ d∈r,a90 d=true
 de:∀ d∈r,a93 d≤n
theorem aj8 {n:Nat} {f:Str} {r:List PyData} (h:a90 (.tuple (.str f::r))=true) (hd:a93 (.tuple (.str f::r))≤n+1):(arity f=none/\ag0 f r=true)∨Node n f r:=by
 rw [ae3] at h
 by_cases ha:arity f=none
 ·rw [if_pos ha] at h
  exact .inl ⟨ha,h⟩
 ·rw [if_neg ha,Bool.and_eq_true,decide_eq_true_eq] at h
  have e:a93 (.tuple (.str f::r))=if (arity f).isSome=true then 1+ac4 r else 1:=rfl
  rw [h.1] at e
  have e:a93 (.tuple (.str f::r))=1+ac4 r:=e
  exact .inr ⟨h.1,fun d m=>ap5 h.2 m,fun d m=>by have:=deeps_mem m;omega⟩
theorem aa4 {d:PyData} (td:TD d) (h:a90 d=true):∃ f r,d=.tuple (.str f::r):=by
 cases td with
 |node a b c e=>exact ⟨_,_,rfl⟩
 |_=>exact absurd h (by simp [a90])
theorem sqt_upd {K:Frag} {H:Hp} {a q:Addr} {xs ys:List V} {o:HO} (h:SqT K H a xs) (hq:H q=some (.lst ys)):SqT K (upd H q o) a xs:=by
 rcases h with (h|⟨ob,h⟩)|h
 ·exact .inl (.inl (by rw [a68 (ah9 h hq (by intro z;cases z))];exact h))
 ·exact .inl (.inr ⟨ob,by rw [a68 (ah9 h hq (by intro z;cases z))];exact h⟩)
 ·exact .inr h
theorem rep_upd {K:Frag} {H:Hp} {q:Addr} {ys:List V} {o:HO} (hq:H q=some (.lst ys)):∀ {d:PyData} {v:V},TD d->Rep K H v d->Rep K (upd H q o) v d:=by
 intro d v td
 induction td generalizing v with
 |str a l=>intro r;cases r;exact .str _
 |int a b=>intro r;cases r;exact .int _
 |nil=>intro r;cases r with|tup sq rs=>cases rs;exact .tup (sqt_upd sq hq) .nil
 | @node f r a b c tr ih=>
   intro rp
   cases rp with
   |tup sq rs=>
   cases rs with
   |cons r0 rs=>
   cases r0
   refine .tup (sqt_upd sq hq) (.cons (.str _) ?_)
   have:∀ {l:List PyData} {vs:List V},(∀ d∈l,d∈r)->Reps K H vs l->Reps K (upd H q o) vs l:=by
    intro l
    induction l with
    |nil=>intro vs _ h;cases h;exact .nil
    | cons e l ihl=>
      intro vs hm h
      cases h with
      |cons h1 h2=>exact .cons (ih e (hm e (List.mem_cons_self ..)) h1) (ihl (fun d m=>hm d (List.mem_cons_of_mem _ m)) h2)
   exact this (fun d m=>m) rs
theorem at8 {K:Frag} {H:Hp} {q:Addr} {ys:List V} {o:HO} (hq:H q=some (.lst ys)):∀ {l:List PyData} {vs:List V},(∀ d∈l,TD d)->Reps K H vs l->Reps K (upd H q o) vs l
 |[],_,_,.nil=>.nil
 |e::l,_,ht,.cons a b=>.cons (rep_upd hq (ht e (List.mem_cons_self ..)) a) (at8 hq (fun d m=>ht d (List.mem_cons_of_mem _ m)) b)
theorem al9 {K:Frag} {H:Hp}:∀ {l m:List PyData} {vs us:List V},Reps K H vs l->Reps K H us m->Reps K H (vs++us) (l++m)
 |[],_,_,_,.nil,h=>h
 |_::_,_,_,_,.cons a b,h=>.cons a (al9 b h)
section
variable {P:Program} {w:World} {K:PySem.W.Frag} {mg:Str->Option Value} {base:Heap}
structure TxtT (mg:Str->Option Value):Prop where
 mp:∃ t,mg "MOST_PARTS" = some (.int 15 t)
 md:∃ t,mg "MOST_DEEP" = some (.int 5 t)
def spIt (K:Frag):Sp:=fun vs H Q _=>∃ (x:V) (d:PyData),vs=[x]/\Rep K H x d/\TD d/\∀ H',Same H H'->Q (.bl (ad4 d)) H'
theorem scIt:a77 ["test"] ["test"] (a03 (top 28)):=⟨rfl,rfl,rfl,by decide +kernel,rfl,by decide +kernel,by decide +kernel⟩
theorem ok_it {f fC:Addr} {fd fdC:FuncData} (F:Fun K "is_test" "is_test" (top 28) f fd) (TT:TxtT mg) (DC:Def K mg "count_parts" (top 27) ["thing","deep"] fC fdC) (GC:FnOk P w K mg base CX0 9 fC fdC ["thing","deep"] (spCp K 5)):FnOk P w K mg base CX0 10 f fd ["test"] (spIt K):=by
 refine F.ok scIt (fun vs H Q E h=>?_) (fun cdv A outer s H vs Q E hr h=>?_)
 ·obtain ⟨x,d,rfl,_⟩:=h
  rfl
 ·obtain ⟨x,d,rfl,rd,td,k⟩:=h
  obtain ⟨t1,mp⟩:=TT.mp
  obtain ⟨t2,md⟩:=TT.md
  refine ⟨_,(a06 (a69 (al7 af8 af8 a04 (a07 GC hr rfl DC.mg DC.F.kp DC.b .nil a74 (a00 (pv 0) (a00 (ac1 (v:=.int 5) rfl md ⟨_,rfl⟩) a01))) (ac1 (v:=.int 15) rfl mp ⟨_,rfl⟩)))),?_⟩
  refine ⟨_,rfl,x,d,rfl,rd,td,fun H' s1=>⟨_,_,rfl,rfl,_,rfl,?_⟩⟩
  have k:=k H' s1
  rw [← test_eq] at k
  refine ite2 (fun h=>?_) (fun h=>?_)
  ·refine ⟨_,_,rfl,rfl,?_⟩
   have e1:1≤cnt 5 d:=by simp at h;omega
   have e2:decide (((cnt 5 d:Nat):Int)≤15)=decide (cnt 5 d≤15):=by rw [Bool.eq_iff_iff];simp;omega
   rw [decide_eq_true e1,Bool.true_and] at k
   show Q (.bl (decide (((cnt 5 d:Nat):Int)≤15))) H'
   rw [e2]
   exact k
  ·have e1:¬ 1≤cnt 5 d:=by simp at h;omega
   rw [decide_eq_false e1,Bool.false_and] at k
   exact k
abbrev btF:List (Str×V):=[("word",.str "badtest")]
def spNt (K:Frag) (cT:Addr):Sp:=fun vs H Q E=>∃ (x:V) (d:PyData),vs=[x]/\Rep K H x d/\TD d/\(ad4 d=true->∀ H',Same H H'->Q .non H')/\(ad4 d=false->∀ H1 da H',Same H H1->an0 H1 btF da H'->E (.ref cT) (some da) H')
theorem scNt:a77 ["test"] ["test"] (a03 (top 29)):=⟨rfl,rfl,rfl,by decide +kernel,rfl,by decide +kernel,by decide +kernel⟩
theorem ok_nt {f fI cT fT:Addr} {fd fdI fdT:FuncData} (F:Fun K "need_test" "need_test" (top 29) f fd) (DI:Def K mg "is_test" (top 28) ["test"] fI fdI) (GI:FnOk P w K mg base CX0 10 fI fdI ["test"] (spIt K)) (WT:WCls K mg "BadTest" cT fT fdT) (GT:FnOk P w K mg base CX0 2 fT fdT ["self","words"] (spW K "badtest")):FnOk P w K mg base (CX1 P w) 11 f fd ["test"] (spNt K cT):=by
 refine F.ok1 scNt (fun vs H Q E h=>?_) (fun cdv A outer s H vs Q E hr h=>?_)
 ·obtain ⟨x,d,rfl,_⟩:=h
  rfl
 ·obtain ⟨x,d,rfl,rd,td,k,kx⟩:=h
  have hr3:Room 3 _:=hr.mono (by decide)
  refine ⟨_,(a06 (a84 (af6 (ac8 (a07 (E:=E0) GI hr rfl DI.mg DI.F.kp DI.b .nil a74 (a00 (pv 0) a01)))) (a06 (ar9 (B:="ValueError") (newId:="ValueError.__new__") (W:=E)
   (as4 (E:=E0) PySem.F.excBase_ValueError WT.e.x WT.i WT.n GT hr3 (by rfl) WT.mg WT.b .nil a74 (a00 a65 a01)) rfl rfl (fun pins σ H' s' e cls dd I x q=>xe1 I x q))) a73)),?_⟩
  refine ⟨_,rfl,x,d,rfl,rd,td,fun H1 s1=>⟨_,rfl,?_⟩⟩
  cases h:ad4 d with
  |true=>exact ifF rfl (k h H1 s1)
  | false=>
    refine ifT rfl ?_
    intro e he
    refine ⟨e,cT,_,rfl,WT.e,a02,fun da hda=>⟨rfl,e,cT,some da,rfl,?_,ag2 s1 he,WT.e.x,kx h H1 da _ s1 (thrown_of he hda)⟩⟩
    have ne:e≠da:=fun q=>by subst q;rw [a02] at hda;cases hda
    rw [a68 ne,a02]
theorem aq4 {d:PyData} (h:ad4 d=true):a90 d=true/\a93 d≤5/\aa1 d≤15:=by
 unfold ad4 at h
 simpa using h
end
inductive Leaf:Str->List PyData->Prop
 |all:Leaf "all" []
 |is {x:Str}:nameB x=true->Leaf "is" [.str x]
 |num {f x:Str} {i:Int}:f = "less"∨f = "same"->nameB x=true->numB (.int i)=true->Leaf f [.str x,.int i]
theorem leaf_of {f:Str} {r:List PyData} (h:ag0 f r=true):Leaf f r:=by
 unfold ag0 at h
 by_cases h1:f = "all"
 ·subst h1
  rw [if_pos rfl,List.isEmpty_iff] at h
  subst h
  exact .all
 ·rw [if_neg h1] at h
  by_cases h2:f = "is"
  ·subst h2
   rw [if_pos rfl] at h
   cases r with
   |nil=>cases h
   | cons d r=>
     cases r with
     |cons _ _=>cases h
     | nil=>
       cases d with
       |str x=>exact .is h
       |_=>exact absurd h (by simp [ao7])
  ·rw [if_neg h2,Bool.and_eq_true,decide_eq_true_eq] at h
   obtain ⟨h0,h⟩:=h
   cases r with
   |nil=>cases h
   | cons d r=>
     cases r with
     |nil=>cases h
     | cons e r=>
       cases r with
       |cons _ _=>cases h
       | nil=>
         have h:(ao7 d && numB e)=true:=h
         rw [Bool.and_eq_true] at h
         cases d with
         | str x=>
           cases e with
           |int i=>exact .num h0 h.1 h.2
           |_=>exact absurd h.2 (by simp [numB])
         |_=>exact absurd h.1 (by simp [ao7])
theorem Leaf.ar {f:Str} {r:List PyData} (h:Leaf f r):arity f=none:=by
 cases h with
 |all=>decide +kernel
 |is _=>decide +kernel
 |num h _ _=>rcases h with rfl|rfl <;> decide +kernel
theorem asc_nm {x:Str} (h:Nm x):Asc x:=by
 unfold Asc
 rw [← Array.all_toList,List.all_eq_true]
 intro c hc
 have:=h.lc c hc
 simp;omega
structure Tr (n:Nat) (d:PyData):Prop where
 td:TD d
 sh:a90 d=true
 dp:a99 d≤n
theorem td_nm {x:Str} (h:Nm x):TD (.str x):=.str (asc_nm h) (by have:=h.hi;omega)
theorem Leaf.tr {f:Str} {r:List PyData} (h:Leaf f r):Tr 1 (.tuple (.str f::r)):=by
 have sh:a90 (.tuple (.str f::r))=true:=by
  rw [ae3,h.ar,if_pos rfl]
  cases h with
  |all=>rfl
  |is n=>exact n
  | num h n m=>
    unfold ag0
    rcases h with rfl|rfl
    ·rw [if_neg (by decide +kernel),if_neg (by decide +kernel)];simp [ao7,n,m]
    ·rw [if_neg (by decide +kernel),if_neg (by decide +kernel)];simp [ao7,n,m]
 cases h with
 |all=>exact ⟨.node (by unfold Asc;decide +kernel) (by decide +kernel) (by simp) (by simp),sh,by simp [a99,a95]⟩
 | @is x n=>
   refine ⟨.node (by unfold Asc;decide +kernel) (by decide +kernel) (by simp) (fun d m=>?_),sh,by simp [a99,a95]⟩
   simp at m;subst m
   exact td_nm ((ae8 x).mp n)
 | @num f x i h n m1=>
   refine ⟨.node ?_ ?_ (by simp) (fun d m=>?_),sh,by simp [a99,a95]⟩
   ·rcases h with rfl|rfl <;> (unfold Asc;decide +kernel)
   ·rcases h with rfl|rfl <;> decide +kernel
   ·simp at m
    rcases m with rfl|rfl
    ·exact td_nm ((ae8 x).mp n)
    ·have h:(decide (-999999≤i) && decide (i≤999999))=true:=m1
     simp at h
     have:(1000000:Int)≤Huge:=by decide
     exact .int (by omega) (by omega)
section
variable {P:Program} {w:World} {K:PySem.W.Frag} {mg:Str->Option Value} {base:Heap}
def spLn:Sp:=fun vs H Q _=>∃ (p dc:Addr),vs=[.ref p]/\Dr H p dc/\∀ (z:Int) (H':Hp),-999999≤z->z≤999999->Dr H' p dc->But p H H'->Q (.int z) H'
theorem scLnu:a77 ["_law_d"] ["_law_d"] (a03 (top 49)):=⟨rfl,rfl,rfl,by decide +kernel,rfl,by decide +kernel,by decide +kernel⟩
theorem ok_ln {f fP fO:Addr} {fd fdP fdO:FuncData} (F:Fun K "_law_number" "_law_number" (top 49) f fd) (T:Txt K mg) (DP:Def K mg "_law_pick" (top 35) ["_law_d","_law_many"] fP fdP) (DO:Def K mg "_law_of" (top 36) ["_law_d","_law_things"] fO fdO):FnOk P w K mg base CX0 3 f fd ["_law_d"] spLn:=by
 have GP:FnOk P w K mg base CX0 1 fP fdP ["_law_d","_law_many"] ac9:=ab5 DP.F T
 have GO:FnOk P w K mg base CX0 2 fO fdO ["_law_d","_law_things"] (spOf K):=aq8 DO.F T DP
 refine F.ok scLnu (fun vs H Q E h=>?_) (fun cdv A outer s H vs Q E hr h=>?_)
 ·obtain ⟨p,dc,rfl,_⟩:=h
  rfl
 ·obtain ⟨p,dc,rfl,D,k⟩:=h
  have hr1:Room 1 _:=hr.mono (by decide)
  refine ⟨_,(a06 (a69 (a07 GO hr rfl DO.mg DO.F.kp DO.b .nil a74 (a00 (pv 0) (a00 (a97 (a00 a04 (a00 a04 (a00 (a07 GP hr1 rfl DP.mg DP.F.kp DP.b .nil a74 (a00 (pv 0) (a00 a04 a01))) (a00 (a81 ae0 (a07 GP hr1 rfl DP.mg DP.F.kp DP.b .nil a74 (a00 (pv 0) (a00 a04 a01))) a04) (a00 a04 (a00 (aq9 ai8 a04) (a00 (a81 ae0 (a07 GP hr1 rfl DP.mg DP.F.kp DP.b .nil a74 (a00 (pv 0) (a00 a04 a01))) a04) a01)))))))) a01))))),?_⟩
  refine ⟨_,rfl,_,rfl,p,dc,_,rfl,D,by decide,by decide,fun r1 H1 r10 r11 D1 b1=>?_⟩
  refine ⟨_,rfl,p,dc,_,rfl,D1,by decide,by decide,fun r2 H2 r20 r21 D2 b2=>⟨_,_,rfl,rfl,_,rfl,?_⟩⟩
  refine ⟨_,rfl,p,dc,_,rfl,D2,by decide,by decide,fun r3 H3 r30 r31 D3 b3=>⟨_,_,rfl,rfl,(show 7≤sizeLine by decide),fun q hq=>?_⟩⟩
  refine ⟨p,dc,q,_,rfl,D3.new hq,SqL.of a02,by simp,by simp,fun y H4 hy D4 b4=>?_⟩
  obtain ⟨z,rfl,h1,h2⟩:∃ z:Int,y=.int z/\-999999≤z/\z≤999999:=by
   simp only [List.mem_cons,List.not_mem_nil,or_false] at hy
   rcases hy with rfl|rfl|rfl|rfl|rfl|rfl|rfl
   all_goals exact ⟨_,rfl,by omega,by omega⟩
  exact k z H4 h1 h2 D4 (((b1.trans b2).trans b3).trans ((But.new hq).trans b4))
def spLe (K:Frag):Sp:=fun vs H Q _=>∃ (p dc q q':Addr) (ys ys':List Str),vs=[.ref p,.ref q,.ref q']/\Dr H p dc/\SqL K H q (ys.map V.str)/\SqL K H q' (ys'.map V.str)/\ys≠[]/\ys'≠[]/\ys.length≤100/\ys'.length≤100/\(∀ y∈ys,Nm y)/\(∀ y∈ys',Nm y)/\
 ∀ (x:V) (f:Str) (r:List PyData) (H':Hp),Rep K H' x (.tuple (.str f::r))->Leaf f r->Dr H' p dc->But p H H'->Q x H'
abbrev NLe:List Str:=["_law_d","_law_names","_law_kinds","_law_way"]
theorem scLe:a77 NLe ["_law_d","_law_names","_law_kinds"] (a03 (top 50)):=⟨rfl,rfl,rfl,by decide +kernel,rfl,by decide +kernel,by decide +kernel⟩
theorem mem_str {ys:List Str} {v:V} (h:v∈ys.map V.str):∃ y∈ys,v=.str y:=by
 obtain ⟨y,m,rfl⟩:=List.mem_map.mp h
 exact ⟨y,m,rfl⟩
theorem ok_le {f fP fO fN:Addr} {fd fdP fdO fdN:FuncData} (F:Fun K "_law_leaf" "_law_leaf" (top 50) f fd) (T:Txt K mg) (DP:Def K mg "_law_pick" (top 35) ["_law_d","_law_many"] fP fdP) (DO:Def K mg "_law_of" (top 36) ["_law_d","_law_things"] fO fdO) (DN:Def K mg "_law_number" (top 49) ["_law_d"] fN fdN):FnOk P w K mg base CX0 4 f fd ["_law_d","_law_names","_law_kinds"] (spLe K):=by
 have GP:FnOk P w K mg base CX0 1 fP fdP ["_law_d","_law_many"] ac9:=ab5 DP.F T
 have GO:FnOk P w K mg base CX0 2 fO fdO ["_law_d","_law_things"] (spOf K):=aq8 DO.F T DP
 have GN:FnOk P w K mg base CX0 3 fN fdN ["_law_d"] spLn:=ok_ln DN.F T DP DO
 refine F.ok scLe (fun vs H Q E h=>?_) (fun cdv A outer s H vs Q E hr h=>?_)
 ·obtain ⟨p,dc,q,q',ys,ys',rfl,_⟩:=h
  rfl
 ·obtain ⟨p,dc,q,q',ys,ys',rfl,D,hq,hq',ne,ne',l,l',nm,nm',k⟩:=h
  have hr1:Room 1 _:=hr.mono (by decide)
  have hr2:Room 2 _:=hr.mono (by decide)
  refine ⟨_,(a05 (a79 (i:=3) scLe.nd rfl (Or.inl rfl) (a07 GP hr1 rfl DP.mg DP.F.kp DP.b .nil a74 (a00 (pv 0) (a00 a04 a01))))
   (a05 (a84 (a67 a85 (pv 3) a04 (a72 _)) (a06 (a69 (a96 (a00 a65 a01)))) a73)
   (a05 (a84 (a67 a85 (pv 3) a04 (a72 _)) (a06 (a69 (a96 (a00 a65 (a00 (a07 GO hr2 rfl DO.mg DO.F.kp DO.b .nil a74 (a00 (pv 0) (a00 (pv 2) a01))) a01))))) a73)
   (a06 (a69 (a96 (a00 (a80 ac6 (a97 (a00 a65 (a00 a65 a01))) (a81 ah5 (pv 3) a04) (fun _ _=>rfl)) (a00 (a07 GO hr2 rfl DO.mg DO.F.kp DO.b .nil a74 (a00 (pv 0) (a00 (pv 1) a01))) (a00 (a07 GN hr rfl DN.mg DN.F.kp DN.b .nil a74 (a00 (pv 0) a01)) a01))))))))),?_⟩
  refine ⟨_,rfl,p,dc,_,rfl,D,by decide,by decide,fun w1 H1 w0 w6 D1 b1=>⟨_,rfl,rfl,_,rfl,?_⟩⟩
  refine ite2 (fun _=>⟨(show 1≤sizeLine by decide),fun t ht=>?_⟩) (fun _=>⟨_,rfl,rfl,_,rfl,?_⟩)
  ·exact k _ "all" [] _ (.tup (SqT.of a02) (.cons (.str _) .nil)) .all (D1.new ht) (b1.trans (But.new ht))
  refine ite2 (fun _=>?_) (fun _=>?_)
  ·refine ⟨_,rfl,_,rfl,p,dc,q',_,rfl,D1,D.seq b1 hq',by simpa using ne',by rw [List.length_map];omega,fun y H2 hy D2 b2=>⟨(show 2≤sizeLine by decide),fun t ht=>?_⟩⟩
   obtain ⟨y,my,rfl⟩:=mem_str hy
   exact k _ "is" [.str y] _ (.tup (SqT.of a02) (.cons (.str _) (.cons (.str _) .nil))) (.is ((ae8 y).mpr (nm' y my))) (D2.new ht) ((b1.trans b2).trans (But.new ht))
  ·refine ⟨(show 2≤sizeLine by decide),fun l0 hl0=>⟨_,rfl,_,_,rfl,rfl,(by show (0:Int)<2;decide),?_⟩⟩
   have b2:But p H (upd H1 l0 (.lst [.str "less",.str "same"])):=b1.trans (But.new hl0)
   obtain ⟨j,hj,ej⟩:∃ j:Nat,j<2/\w1 % 2=j:=⟨(w1 % 2).toNat,by omega,by omega⟩
   have D2:=D1.new (o:=.lst [.str "less",.str "same"]) hl0
   obtain ⟨f0,hf,ef⟩:∃ f0:Str,(f0 = "less"∨f0 = "same")/\([V.str "less",V.str "same"])[j]?=some (.str f0):=by
    match j,hj with
    |0,_=>exact ⟨"less",.inl rfl,rfl⟩
    |1,_=>exact ⟨"same",.inr rfl,rfl⟩
   refine ⟨l0,_,_,_,rfl,rfl,SqL.of a02,(by rw [ej];exact a09 ef),_,rfl,_,rfl,p,dc,q,_,rfl,D2,D.seq b2 hq,by simpa using ne,by rw [List.length_map];omega,fun y H3 hy D3 b3=>?_⟩
   obtain ⟨y,my,rfl⟩:=mem_str hy
   refine ⟨_,rfl,p,dc,rfl,D3,fun z H4 z1 z2 D4 b4=>⟨(show 3≤sizeLine by decide),fun t ht=>?_⟩⟩
   exact k _ f0 [.str y,.int z] _ (.tup (SqT.of a02) (.cons (.str _) (.cons (.str _) (.cons (.int _) .nil)))) (.num hf ((ae8 y).mpr (nm y my)) (by simp [numB];omega)) (D4.new ht) (((b2.trans b3).trans b4).trans (But.new ht))
theorem Tr.mono {n m:Nat} {d:PyData} (h:Tr n d) (l:n≤m):Tr m d:=⟨h.td,h.sh,Nat.le_trans h.dp l⟩
theorem Tr.one {n:Nat} {d:PyData} (h:Tr n d):Tr (n+1) (.tuple [.str "not",d]):=by
 refine ⟨.node (by unfold Asc;decide +kernel) (by decide +kernel) (by simp) (fun e m=>?_),?_,?_⟩
 ·simp at m;subst m;exact h.td
 ·rw [ae3,show arity "not" = some 1 from by decide +kernel,if_neg (by nofun)]
  simp [shapes,h.sh]
 ·have:=h.dp
  simp [a99,a95];omega
theorem Tr.two {n:Nat} {f:Str} {d e:PyData} (hf:f = "and"∨f = "or") (h:Tr n d) (h':Tr n e):Tr (n+1) (.tuple [.str f,d,e]):=by
 refine ⟨.node ?_ ?_ (by simp) (fun e m=>?_),?_,?_⟩
 ·rcases hf with rfl|rfl <;> (unfold Asc;decide +kernel)
 ·rcases hf with rfl|rfl <;> decide +kernel
 ·simp at m
  rcases m with rfl|rfl
  ·exact h.td
  ·exact h'.td
 ·have ha:arity f=some 2:=by rcases hf with rfl|rfl <;> decide +kernel
  rw [ae3,ha,if_neg (by nofun)]
  simp [shapes,h.sh,h'.sh]
 ·have:=h.dp
  have:=h'.dp
  simp [a99,a95];omega
def spTr (K:Frag) (n:Nat):Sp:=fun vs H Q _=>∃ (p dc q q':Addr) (ys ys':List Str) (m:Int),vs=[.ref p,.int m,.ref q,.ref q']/\m≤n/\Dr H p dc/\SqL K H q (ys.map V.str)/\SqL K H q' (ys'.map V.str)/\ys≠[]/\ys'≠[]/\ys.length≤100/\ys'.length≤100/\(∀ y∈ys,Nm y)/\(∀ y∈ys',Nm y)/\
 ∀ (x:V) (d:PyData) (H':Hp),Rep K H' x d->Tr n d->Dr H' p dc->But p H H'->Q x H'
abbrev NTr:List Str:=["_law_d","_law_deep_here","_law_names","_law_kinds","_law_way","_law_word_here"]
theorem scTr:a77 NTr ["_law_d","_law_deep_here","_law_names","_law_kinds"] (a03 (top 51)):=⟨rfl,rfl,rfl,by decide +kernel,rfl,by decide +kernel,by decide +kernel⟩
theorem ok_tr {f fP fO fN fL:Addr} {fd fdP fdO fdN fdL:FuncData} (DT:Def K mg "_law_tree" (top 51) ["_law_d","_law_deep_here","_law_names","_law_kinds"] f fd) (T:Txt K mg) (DP:Def K mg "_law_pick" (top 35) ["_law_d","_law_many"] fP fdP) (DO:Def K mg "_law_of" (top 36) ["_law_d","_law_things"] fO fdO) (DN:Def K mg "_law_number" (top 49) ["_law_d"] fN fdN)
 (DL:Def K mg "_law_leaf" (top 50) ["_law_d","_law_names","_law_kinds"] fL fdL) (n:Nat):FnOk P w K mg base CX0 (n+5) f fd ["_law_d","_law_deep_here","_law_names","_law_kinds"] (spTr K (n+1)):=by
 have GP:FnOk P w K mg base CX0 1 fP fdP ["_law_d","_law_many"] ac9:=ab5 DP.F T
 have GL:FnOk P w K mg base CX0 4 fL fdL ["_law_d","_law_names","_law_kinds"] (spLe K):=ok_le DL.F T DP DO DN
 have main:∀ m:Nat,(∀ j,j+1=m->FnOk P w K mg base CX0 (j+5) f fd ["_law_d","_law_deep_here","_law_names","_law_kinds"] (spTr K (j+1)))->FnOk P w K mg base CX0 (m+5) f fd ["_law_d","_law_deep_here","_law_names","_law_kinds"] (spTr K (m+1)):=by
  intro m GC
  have GT:FnOk P w K mg base CX0 (m+4) f fd ["_law_d","_law_deep_here","_law_names","_law_kinds"] (fun vs H Q E=>∃ j,j+1=m/\spTr K (j+1) vs H Q E):=by
   match m,GC with
   |0,_=>exact ⟨fun _ _ _ _ ⟨n,e,_⟩=>by omega,fun _ _ _ _ _ _ _ _ _ _ _ _ _ ⟨n,e,_⟩=>by omega⟩
   | m+1,GC=>
     have G:=GC m rfl
     exact ⟨fun vs H Q E ⟨n,e,h⟩=>by cases e;exact G.1 vs H Q E h,fun a1 a2 a3 a4 a5 a6 a7 a8 a9 a10 a11 a12 a13 ⟨n,e,h⟩=>by cases e;exact G.2 a1 a2 a3 a4 a5 a6 a7 a8 a9 a10 a11 a12 a13 h⟩
  refine DT.F.ok scTr (fun vs H Q E h=>?_) (fun cdv A outer s H vs Q E hr h=>?_)
  ·obtain ⟨p,dc,q,q',ys,ys',z,rfl,_⟩:=h
   rfl
  ·obtain ⟨p,dc,q,q',ys,ys',z,rfl,hz,D,hq,hq',ne,ne',l,l',nm,nm',k⟩:=h
   have hr1:Room 1 _:=hr.mono (by omega)
   have hr4:Room 4 _:=hr.mono (by omega)
   refine ⟨_,(a05 (a79 (i:=4) scTr.nd rfl (Or.inl rfl) (a07 GP hr1 rfl DP.mg DP.F.kp DP.b .nil a74 (a00 (pv 0) (a00 a04 a01))))
    (a05 (a84 (PW.pt (ap3 (a67 op_lt (pv 1) a04 (a72 _)) (ai1 (a67 a85 (pv 4) a04 (a72 _))))) (a06 (a69 (a07 GL hr4 rfl DL.mg DL.F.kp DL.b .nil a74 (a00 (pv 0) (a00 (pv 2) (a00 (pv 3) a01)))))) a73)
    (a05 (a84 (a67 a85 (pv 4) a04 (a72 _)) (a06 (a69 (a96 (a00 a65 (a00 (a07 GT hr rfl DT.mg DT.F.kp DT.b .nil a74 (a00 (pv 0) (a00 (a81 ae0 (pv 1) a04) (a00 (pv 2) (a00 (pv 3) a01))))) a01))))) a73)
    (a05 (a79 (i:=5) scTr.nd rfl (Or.inl rfl) (a80 ac6 (a97 (a00 a65 (a00 a65 a01))) (a81 ah5 (pv 4) a04) (fun _ _=>rfl)))
    (a06 (a69 (a96 (a00 (pv 5) (a00 (a07 GT hr rfl DT.mg DT.F.kp DT.b .nil a74 (a00 (pv 0) (a00 (a81 ae0 (pv 1) a04) (a00 (pv 2) (a00 (pv 3) a01))))) (a00 (a07 GT hr rfl DT.mg DT.F.kp DT.b .nil a74 (a00 (pv 0) (a00 (a81 ae0 (pv 1) a04) (a00 (pv 2) (a00 (pv 3) a01))))) a01)))))))))),?_⟩
   refine ⟨_,rfl,p,dc,_,rfl,D,by decide,by decide,fun w1 H1 w0 w5 D1 b1=>?_⟩
   have hq1:=D.seq b1 hq
   have hq1':=D.seq b1 hq'
   have leaf:tCall (spLe K) [] E0 (tCons (tVar 0) (tCons (tVar 2) (tCons (tVar 3) tNil))) [some (.ref p),some (.int z),some (.ref q),some (.ref q'),some (.int w1),none] H1 Q:=
    ⟨_,rfl,_,rfl,_,rfl,p,dc,q,q',ys,ys',rfl,D1,hq1,hq1',ne,ne',l,l',nm,nm',fun x f r H' rp lf D' b'=>k x _ H' rp (lf.tr.mono (by omega)) D' (b1.trans b')⟩
   refine ⟨_,rfl,_,_,rfl,rfl,_,rfl,ite2 (fun _=>ifT rfl leaf) (fun hz2=>⟨_,rfl,rfl,_,rfl,ite2 (fun _=>leaf) (fun _=>?_)⟩)⟩
   have hz2:¬ z<2:=by simpa using hz2
   obtain ⟨j,rfl⟩:∃ j,m=j+1:=⟨m-1,by omega⟩
   refine ⟨_,rfl,rfl,_,rfl,ite2 (fun _=>?_) (fun _=>?_)⟩
   ·refine ⟨_,rfl,_,rfl,_,_,rfl,rfl,_,rfl,_,rfl,j,rfl,p,dc,q,q',ys,ys',z-1,rfl,by omega,D1,hq1,hq1',ne,ne',l,l',nm,nm',fun x d H2 rx tx D2 b2=>⟨(show 2≤sizeLine by decide),fun t ht=>?_⟩⟩
    exact k _ _ _ (.tup (SqT.of a02) (.cons (.str _) (.cons (rx.same (Same.new ht)) .nil))) tx.one (D2.new ht) ((b1.trans b2).trans (But.new ht))
   ·refine ⟨(show 2≤sizeLine by decide),fun l0 hl0=>⟨_,rfl,_,_,rfl,rfl,(by show (0:Int)<2;decide),?_⟩⟩
    have b2:But p H (upd H1 l0 (.lst [.str "and",.str "or"])):=b1.trans (But.new hl0)
    obtain ⟨i,hj,ej⟩:∃ i:Nat,i<2/\w1 % 2=i:=⟨(w1 % 2).toNat,by omega,by omega⟩
    have D2:=D1.new (o:=.lst [.str "and",.str "or"]) hl0
    obtain ⟨f0,hf,ef⟩:∃ f0:Str,(f0 = "and"∨f0 = "or")/\([V.str "and",V.str "or"])[i]?=some (.str f0):=by
     match i,hj with
     |0,_=>exact ⟨"and",.inl rfl,rfl⟩
     |1,_=>exact ⟨"or",.inr rfl,rfl⟩
    refine ⟨l0,_,_,_,rfl,rfl,SqL.of a02,(by rw [ej];exact a09 ef),_,rfl,?_⟩
    have hq2:=D.seq b2 hq
    have hq2':=D.seq b2 hq'
    refine ⟨_,rfl,_,rfl,_,_,rfl,rfl,_,rfl,_,rfl,j,rfl,p,dc,q,q',ys,ys',z-1,rfl,by omega,D2,hq2,hq2',ne,ne',l,l',nm,nm',fun x d H3 rx tx D3 b3=>?_⟩
    have b3':=b2.trans b3
    refine ⟨_,rfl,_,rfl,_,_,rfl,rfl,_,rfl,_,rfl,j,rfl,p,dc,q,q',ys,ys',z-1,rfl,by omega,D3,D.seq b3' hq,D.seq b3' hq',ne,ne',l,l',nm,nm',fun x2 d2 H4 rx2 tx2 D4 b4=>⟨(show 3≤sizeLine by decide),fun t ht=>?_⟩⟩
    exact k _ _ _ (.tup (SqT.of a02) (.cons (.str _) (.cons ((D3.rep b4 rx).same (Same.new ht)) (.cons (rx2.same (Same.new ht)) .nil)))) (tx.two hf tx2) (D4.new ht) ((b3'.trans b4).trans (But.new ht))
 induction n with
 |zero=>exact main 0 (fun n e=>by omega)
 |succ n ih=>exact main (n+1) (fun n' e=>by cases e;exact ih)
end
theorem inS2 (f a b:Str):inV (.str f) [.str a,.str b]=decide (f=a∨f=b):=by
 rw [Bool.eq_iff_iff]
 simp [inV,eqV]
 constructor <;> (rintro (h|h) <;> simp [h])
theorem inS3 (f a b c:Str):inV (.str f) [.str a,.str b,.str c]=decide (f=a∨f=b∨f=c):=by
 rw [Bool.eq_iff_iff]
 simp [inV,eqV]
 constructor <;> (rintro (h|h|h) <;> simp [h])
theorem ar_op (f:Str):decide (f = "not"∨f = "and"∨f = "or")=(arity f).isSome:=by
 unfold arity
 by_cases h1:f = "not"
 ·simp [h1]
 ·by_cases h2:f = "and"
  ·subst h2;decide +kernel
  ·by_cases h3:f = "or"
   ·subst h3;decide +kernel
   ·simp [h1,h2,h3]
theorem deep_dep {d:PyData} (td:TD d):a90 d=true->a93 d≤a99 d:=by
 induction td with
 |str a b=>intro h;cases h
 |int a b=>intro h;cases h
 |nil=>intro h;cases h
 | @node f r a b c tr ih=>
   intro sh
   have e:a93 (.tuple (.str f::r))=if (arity f).isSome=true then 1+ac4 r else 1:=rfl
   have ep:a99 (.tuple (.str f::r))=max 0 (a95 r)+1:=rfl
   rcases aj8 (n:=a93 (.tuple (.str f::r))) sh (by omega) with ⟨ha,_⟩|N
   ·rw [e,ha,ep]
    show 1≤_
    omega
   ·have:∀ l:List PyData,(∀ d∈l,d∈r)->ac4 l≤a95 l:=by
     intro l
     induction l with
     |nil=>intro _;exact Nat.zero_le _
     | cons d l ihl=>
       intro hm
       have md:=hm d (List.mem_cons_self ..)
       have h1:=ih d md (N.sh d md)
       have h2:=ihl (fun d m=>hm d (List.mem_cons_of_mem _ m))
       show max (a93 d) (ac4 l)≤max (a99 d) (a95 l)
       omega
    have:=this r (fun _ m=>m)
    rw [e,N.ar,ep]
    show 1+ac4 r≤_
    omega
def isS:PyData->Bool
 |.str _=>true
 |_=>false
def isI:PyData->Bool
 |.int _=>true
 |_=>false
def isTu:PyData->Bool
 |.tuple _=>true
 |_=>false
theorem kit_s {K:Frag} {d:PyData} (td:TD d):kitOne K (.type (tyD d)) (.type "str")=some (isS d):=by cases td <;> rfl
theorem kit_i {K:Frag} {d:PyData} (td:TD d):kitOne K (.type (tyD d)) (.type "int")=some (isI d):=by cases td <;> rfl
theorem kit_t {K:Frag} {d:PyData} (td:TD d):kitOne K (.type (tyD d)) (.type "tuple")=some (isTu d):=by cases td <;> rfl
section
variable {P:Program} {w:World} {K:PySem.W.Frag} {mg:Str->Option Value} {base:Heap}
def spLo (K:Frag):Sp:=fun vs H Q _=>∃ (a:Addr) (f:Str) (r:List PyData),vs=[.ref a]/\Rep K H (.ref a) (.tuple (.str f::r))/\TD (.tuple (.str f::r))/\∀ H',Same H H'->Q (.bl (ag0 f r)) H'
theorem scLo:a77 ["_law_test_here"] ["_law_test_here"] (a03 (top 55)):=⟨rfl,rfl,rfl,by decide +kernel,rfl,by decide +kernel,by decide +kernel⟩
theorem ok_lo {f fN:Addr} {fd fdN:FuncData} (F:Fun K "_law_leaf_ok" "_law_leaf_ok" (top 55) f fd) (T:Txt K mg) (DN:Def K mg "_law_is_name" (top 44) ["_law_text"] fN fdN):FnOk P w K mg base CX0 2 f fd ["_law_test_here"] (spLo K):=by
 have GN:FnOk P w K mg base CX0 1 fN fdN ["_law_text"] spIsNm:=ok_isnm DN.F T
 refine F.ok scLo (fun vs H Q E h=>?_) (fun cdv A outer s H vs Q E hr h=>?_)
 ·obtain ⟨a,f,r,rfl,_⟩:=h
  rfl
 ·obtain ⟨a,f,r,rfl,rd,td,k⟩:=h
  refine ⟨_,(a05 (a84 (a67 a85 (a80 a78 (pv 0) a04 (fun _ _=>rfl)) a65 (a72 _)) (a06 (a69 (a94 a85 (a08 a66 (by rfl) T.len a86 (a00 (pv 0) a01)) a04 (a72 _)))) a73)
   (a05 (a84 (a67 a85 (a80 a78 (pv 0) a04 (fun _ _=>rfl)) a65 (a72 _)) (a06 (a69 (aa5 (a94 a85 (a08 a66 (by rfl) T.len a86 (a00 (pv 0) a01)) a04 (a72 _)) (aa5 (a08 a88 (by rfl) T.isinstance a76 (a00 (a80 a78 (pv 0) a04 (fun _ _=>rfl)) (a00 (ac5 rfl T.str al5) a01))) (ac7 (a07 GN hr rfl DN.mg DN.F.kp DN.b .nil a74 (a00 (a80 a78 (pv 0) a04 (fun _ _=>rfl)) a01))))))) a73)
   (a05 (a84 (PW.pt (ap3 (a67 ag3 (a80 a78 (pv 0) a04 (fun _ _=>rfl)) (a96 (a00 a65 (a00 a65 a01))) rfl) (ai1 (a67 op_ne (a08 a66 (by rfl) T.len a86 (a00 (pv 0) a01)) a04 (a72 _))))) (a06 (a69 ar5)) a73)
   (a05 (a84 (PW.pt (ap3 (af6 (ac8 (a08 a88 (by rfl) T.isinstance a76 (a00 (a80 a78 (pv 0) a04 (fun _ _=>rfl)) (a00 (ac5 rfl T.str al5) a01))))) (ai1 (af6 (ac8 (a07 GN hr rfl DN.mg DN.F.kp DN.b .nil a74 (a00 (a80 a78 (pv 0) a04 (fun _ _=>rfl)) a01))))))) (a06 (a69 ar5)) a73)
   (a06 (a69 (aa5 (a08 a88 (by rfl) T.isinstance a76 (a00 (a80 a78 (pv 0) a04 (fun _ _=>rfl)) (a00 (ac5 rfl T.int ao2) a01))) (ac7 (al7 af8 af8 (aq9 ai8 a04) (a80 a78 (pv 0) a04 (fun _ _=>rfl)) a04))))))))),?_⟩
  cases td with
  |node af lf nr tr=>
  cases rd with
  |@tup _ xs _ sq rs=>
  obtain ⟨x0,ys,rfl⟩:∃ x0 ys,xs=x0::ys:=by cases rs;exact ⟨_,_,rfl⟩
  obtain ⟨r0,rt⟩:Rep K H x0 (.str f)/\Reps K H ys r:=by cases rs with|cons a b=>exact ⟨a,b⟩
  cases r0
  have hl:=rt.length
  refine ⟨_,rfl,a,_,_,_,rfl,rfl,sq,a09 (j:=0) rfl,rfl,_,rfl,?_⟩
  unfold ag0 at k
  by_cases h1:f = "all"
  ·subst h1
   rw [if_pos rfl] at k
   refine ifT (by simp) ⟨_,rfl,a,_,rfl,.inr sq,rfl,?_⟩
   have e:decide (V.int ((V.str "all"::ys).length:Nat)=V.int 1)=r.isEmpty:=by
    rw [Bool.eq_iff_iff,decide_eq_true_eq,List.isEmpty_iff,List.length_cons,V.int.injEq]
    constructor
    ·intro h
     exact List.length_eq_zero_iff.mp (by omega)
    ·rintro rfl
     simp at hl
     simp [hl]
   rw [e]
   exact k _ (Same.refl _)
  ·rw [if_neg h1] at k
   refine ifF (by simp [h1]) ⟨_,rfl,a,_,_,_,rfl,rfl,sq,a09 (j:=0) rfl,rfl,_,rfl,?_⟩
   by_cases h2:f = "is"
   ·subst h2
    rw [if_pos rfl] at k
    refine ifT (by simp) ⟨_,rfl,a,_,rfl,.inr sq,rfl,_,rfl,?_⟩
    match r,ys,rt,k,hl,tr with
    |[],[],_,k,_,_=>exact ifF (by simp) (k _ (Same.refl _))
    | [d],[y],.cons ry .nil,k,_,tr=>
      have tdd:=tr d (List.mem_cons_self ..)
      refine ifT (by simp) ⟨_,rfl,a,_,_,_,rfl,rfl,sq,a09 (j:=1) rfl,_,_,_,_,rfl,ry,kit_s tdd,_,rfl,?_⟩
      cases tdd with
      | @str z az lz=>
        cases ry
        exact ifT rfl ⟨_,rfl,a,_,_,_,rfl,rfl,sq,a09 (j:=1) rfl,z,rfl,by omega,az,fun H' s'=>k _ s'⟩
      |int _ _=>exact ifF rfl (k _ (Same.refl _))
      |nil=>exact ifF rfl (k _ (Same.refl _))
      |node _ _ _ _=>exact ifF rfl (k _ (Same.refl _))
    |_::_::_,_::_::_,_,k,_,_=>exact ifF (by simp;omega) (k _ (Same.refl _))
   ·rw [if_neg h2] at k
    refine ifF (by simp [h2]) ⟨_,rfl,a,_,_,_,rfl,rfl,sq,a09 (j:=0) rfl,(show 2≤sizeLine by decide),fun t ht=>?_⟩
    have s1:Same H (upd H t (.tup [.str "less",.str "same"])):=Same.new ht
    refine ⟨t,_,rfl,.inr (SqT.of a02),rfl,rfl,_,rfl,?_⟩
    rw [inS2]
    have sq1:=s1.tup sq
    have rt1:=rt.same s1
    generalize upd H t (.tup [.str "less",.str "same"])=H1 at s1 sq1 rt1 ⊢
    by_cases h3:f = "less"∨f = "same"
    ·rw [decide_eq_true h3,Bool.true_and] at k
     refine ifF (by simp [h3]) ⟨_,rfl,a,_,rfl,.inr sq1,rfl,_,rfl,?_⟩
     match r,ys,rt1,k,hl,tr with
     |[],[],_,k,_,_=>exact ifT (by simp) (k _ s1)
     |[d],[y],_,k,_,_=>exact ifT (by simp) (k _ s1)
     | [d,d2],[y,y2],.cons ry (.cons ry2 .nil),k,_,tr=>
       have k:∀ H',Same H H'->Q (.bl (ao7 d && numB d2)) H':=k
       have tdd:=tr d (List.mem_cons_self ..)
       have tdd2:=tr d2 (List.mem_cons_of_mem _ (List.mem_cons_self ..))
       refine ifF (by simp) ⟨_,rfl,a,_,_,_,rfl,rfl,sq1,a09 (j:=1) rfl,_,_,_,_,rfl,ry,kit_s tdd,_,rfl,?_⟩
       cases tdd with
       | @str z az lz=>
         cases ry
         refine ifF rfl ⟨_,rfl,a,_,_,_,rfl,rfl,sq1,a09 (j:=1) rfl,z,rfl,by omega,az,fun H2 s2=>⟨_,rfl,?_⟩⟩
         have sq2:=s2.tup sq1
         have ry3:=ry2.same s2
         have k:∀ H',Same H H'->Q (.bl (nameB z && numB d2)) H':=k
         cases hw:nameB z with
         |false=>rw [hw] at k;exact ifT rfl (k _ (s1.trans s2))
         | true=>
           rw [hw,Bool.true_and] at k
           refine ifF rfl ⟨_,rfl,a,_,_,_,rfl,rfl,sq2,a09 (j:=2) rfl,_,_,_,_,rfl,ry3,kit_i tdd2,_,rfl,?_⟩
           have k:=k _ (s1.trans s2)
           cases tdd2 with
           | @int i i1 i2=>
             cases ry3
             refine ifT rfl ?_
             refine ⟨_,rfl,_,rfl,a,_,_,_,rfl,rfl,sq2,a09 (j:=2) rfl,_,_,rfl,rfl,_,rfl,?_⟩
             have k:Q (.bl (decide (-999999≤i) && decide (i≤999999))) H2:=k
             by_cases q1:-999999≤i
             ·rw [decide_eq_true q1,Bool.true_and] at k
              exact ifT (by simpa using q1) ⟨_,_,rfl,rfl,k⟩
             ·rw [decide_eq_false q1,Bool.false_and] at k
              exact ifF (by simpa using q1) k
           |str _ _=>exact ifF rfl k
           |nil=>exact ifF rfl k
           |node _ _ _ _=>exact ifF rfl k
       |int _ _=>exact ifT rfl (k _ s1)
       |nil=>exact ifT rfl (k _ s1)
       |node _ _ _ _=>exact ifT rfl (k _ s1)
     |_::_::_::_,_::_::_::_,_,k,_,_=>exact ifT (by simp;omega) (k _ s1)
    ·rw [decide_eq_false h3,Bool.false_and] at k
     exact ifT (by simp [h3]) (k _ s1)
end
theorem ah8 {f:Str} {r:List PyData} {d:PyData} {n:Nat} (h:a99 (.tuple (.str f::r))≤n+1) (m:d∈r):a99 d≤n:=by
 have:=al8 m
 have h:max 0 (a95 r)+1≤n+1:=h
 omega
theorem parts_lt {n:Nat} {d:PyData} (sh:a90 d=true) (h:a93 d≤n):aa1 d+1≤2 ^ n:=by
 have:=cnt_lt n d
 rw [cnt_eq,if_pos ⟨sh,h⟩] at this
 exact this
theorem max_deeps {r:List PyData} {b:Int} (h1:1≤r.length/\r.length≤2) (hb:b∈r.map fun d=>((a93 d:Nat):Int)) (hm:∀ x∈r.map fun d=>((a93 d:Nat):Int),x≤b):b=((ac4 r:Nat):Int):=by
 match r,h1 with
 | [x],_=>
   have e:ac4 [x]=max (a93 x) 0:=rfl
   simp at hb
   rw [hb,e];omega
 | [x,y],_=>
   have e:ac4 [x,y]=max (a93 x) (max (a93 y) 0):=rfl
   have q1:=hm (a93 x) (by simp)
   have q2:=hm (a93 y) (by simp)
   simp at hb
   rw [e]
   rcases hb with rfl|rfl <;> omega
 |[],h=>exact absurd h.1 (by simp)
 |_::_::_::_,h=>exact absurd h.2 (by simp)
section
variable {P:Program} {w:World} {K:PySem.W.Frag} {mg:Str->Option Value} {base:Heap}
def spSo (K:Frag) (n:Nat):Sp:=fun vs H Q _=>∃ (x:V) (d:PyData),vs=[x]/\Rep K H x d/\TD d/\a99 d≤n/\∀ H',Same H H'->Q (.bl (a90 d)) H'
theorem scSo:a77 ["_law_test_here"] ["_law_test_here"] (a03 (top 56)):=⟨rfl,rfl,rfl,by decide +kernel,rfl,by decide +kernel,by decide +kernel⟩
theorem ok_so {f fL fN:Addr} {fd fdL fdN:FuncData} (DS:Def K mg "_law_shape_ok" (top 56) ["_law_test_here"] f fd) (T:Txt K mg) (DN:Def K mg "_law_is_name" (top 44) ["_law_text"] fN fdN) (DL:Def K mg "_law_leaf_ok" (top 55) ["_law_test_here"] fL fdL) (n:Nat):FnOk P w K mg base CX0 (n+3) f fd ["_law_test_here"] (spSo K n):=by
 have GL:FnOk P w K mg base CX0 2 fL fdL ["_law_test_here"] (spLo K):=ok_lo DL.F T DN
 have main:∀ m:Nat,(∀ j,j+1=m->FnOk P w K mg base CX0 (j+3) f fd ["_law_test_here"] (spSo K j))->FnOk P w K mg base CX0 (m+3) f fd ["_law_test_here"] (spSo K m):=by
  intro m GC
  have GS:FnOk P w K mg base CX0 (m+2) f fd ["_law_test_here"] (fun vs H Q E=>∃ j,j+1=m/\spSo K j vs H Q E):=by
   match m,GC with
   |0,_=>exact ⟨fun _ _ _ _ ⟨n,e,_⟩=>by omega,fun _ _ _ _ _ _ _ _ _ _ _ _ _ ⟨n,e,_⟩=>by omega⟩
   | m+1,GC=>
     have G:=GC m rfl
     exact ⟨fun vs H Q E ⟨n,e,h⟩=>by cases e;exact G.1 vs H Q E h,fun a1 a2 a3 a4 a5 a6 a7 a8 a9 a10 a11 a12 a13 ⟨n,e,h⟩=>by cases e;exact G.2 a1 a2 a3 a4 a5 a6 a7 a8 a9 a10 a11 a12 a13 h⟩
  refine DS.F.ok scSo (fun vs H Q E h=>?_) (fun cdv A outer s H vs Q E hr h=>?_)
  ·obtain ⟨x,d,rfl,_⟩:=h
   rfl
  ·obtain ⟨x,d,rfl,rd,td,hd,k⟩:=h
   have hr2:Room 2 _:=hr.mono (by omega)
   refine ⟨_,(a05 (a84 (PW.pt (ap3 (af6 (ac8 (a08 a88 (by rfl) T.isinstance a76 (a00 (pv 0) (a00 (ac5 rfl T.tuple ac2) a01))))) (ai1 (a67 a85 (a08 a66 (by rfl) T.len a86 (a00 (pv 0) a01)) a04 (a72 _))))) (a06 (a69 ar5)) a73)
    (a05 (a84 (a67 ad2 (a80 a78 (pv 0) a04 (fun _ _=>rfl)) (a96 (a00 a65 (a00 a65 a01))) rfl) (a06 (a69 (aa5 (a94 a85 (a08 a66 (by rfl) T.len a86 (a00 (pv 0) a01)) a04 (a72 _)) (aa5 (a07 GS hr rfl DS.mg DS.F.kp DS.b .nil a74 (a00 (a80 a78 (pv 0) a04 (fun _ _=>rfl)) a01)) (ac7 (a07 GS hr rfl DS.mg DS.F.kp DS.b .nil a74 (a00 (a80 a78 (pv 0) a04 (fun _ _=>rfl)) a01))))))) a73)
    (a05 (a84 (a67 a85 (a80 a78 (pv 0) a04 (fun _ _=>rfl)) a65 (a72 _)) (a06 (a69 (aa5 (a94 a85 (a08 a66 (by rfl) T.len a86 (a00 (pv 0) a01)) a04 (a72 _)) (ac7 (a07 GS hr rfl DS.mg DS.F.kp DS.b .nil a74 (a00 (a80 a78 (pv 0) a04 (fun _ _=>rfl)) a01)))))) a73)
    (a06 (a69 (a07 GL hr2 rfl DL.mg DL.F.kp DL.b .nil a74 (a00 (pv 0) a01))))))),?_⟩
   refine ⟨_,rfl,_,_,_,_,rfl,rd,kit_t td,_,rfl,?_⟩
   cases td with
   |str a l=>exact ifT rfl (ifT rfl (k _ (Same.refl _)))
   |int a b=>exact ifT rfl (ifT rfl (k _ (Same.refl _)))
   | nil=>
     cases rd with
     |@tup a xs _ sq rs=>
     cases rs
     exact ifF rfl ⟨_,rfl,a,_,rfl,.inr sq,rfl,_,rfl,ifT (by simp) (k _ (Same.refl _))⟩
   |@node f r af lf nr tr=>
   obtain ⟨n,rfl⟩:∃ n,m=n+1:=⟨m-1,by have h:max 0 (a95 r)+1≤m:=hd;omega⟩
   have rd0:=rd
   cases rd with
   |@tup a xs _ sq rs=>
   obtain ⟨x0,ys,rfl⟩:∃ x0 ys,xs=x0::ys:=by cases rs;exact ⟨_,_,rfl⟩
   obtain ⟨r0,rt⟩:Rep K H x0 (.str f)/\Reps K H ys r:=by cases rs with|cons a b=>exact ⟨a,b⟩
   cases r0
   have hl:=rt.length
   refine ifF rfl ⟨_,rfl,a,_,rfl,.inr sq,rfl,_,rfl,ifF (by simp;omega) ?_⟩
   refine ⟨_,rfl,a,_,_,_,rfl,rfl,sq,a09 (j:=0) rfl,(show 2≤sizeLine by decide),fun t ht=>?_⟩
   have s1:Same H (upd H t (.tup [.str "and",.str "or"])):=Same.new ht
   refine ⟨t,_,rfl,.inr (SqT.of a02),rfl,rfl,_,rfl,?_⟩
   rw [inS2]
   have sq1:=s1.tup sq
   have rt1:=rt.same s1
   have rd1:=rd0.same s1
   generalize upd H t (.tup [.str "and",.str "or"])=H1 at s1 sq1 rt1 rd1 ⊢
   unfold a90 at k
   by_cases h1:f = "and"∨f = "or"
   ·rw [if_pos h1] at k
    refine ifT (by simp [h1]) ⟨_,rfl,a,_,rfl,.inr sq1,rfl,_,rfl,?_⟩
    match r,ys,rt1,k,hl,tr,hd with
    |[],[],_,k,_,_,_=>exact ifF (by simp) (k _ s1)
    |[_],[_],_,k,_,_,_=>exact ifF (by simp) (k _ s1)
    | [d,e],[y,z],.cons ry (.cons rz .nil),k,_,tr,hd=>
      have k:∀ H',Same H H'->Q (.bl (true && (a90 d && (a90 e && true)))) H':=k
      refine ifT (by simp) ⟨_,rfl,a,_,_,_,rfl,rfl,sq1,a09 (j:=1) rfl,n,rfl,y,d,rfl,ry,tr d (by simp),ah8 hd (by simp),fun H2 s2=>⟨_,rfl,?_⟩⟩
      rw [Bool.true_and,Bool.and_true] at k
      cases hs:a90 d with
      |false=>rw [hs] at k;exact ifF rfl (k _ (s1.trans s2))
      | true=>
        rw [hs,Bool.true_and] at k
        exact ifT rfl ⟨_,rfl,a,_,_,_,rfl,rfl,s2.tup sq1,a09 (j:=2) rfl,n,rfl,z,e,rfl,rz.same s2,tr e (by simp),ah8 hd (by simp),fun H3 s3=>k _ ((s1.trans s2).trans s3)⟩
    |_::_::_::_,_::_::_::_,_,k,_,_,_=>exact ifF (by simp;omega) (k _ s1)
   ·rw [if_neg h1] at k
    refine ifF (by simp [h1]) ⟨_,rfl,a,_,_,_,rfl,rfl,sq1,a09 (j:=0) rfl,rfl,_,rfl,?_⟩
    by_cases h2:f = "not"
    ·rw [if_pos h2] at k
     refine ifT (by simp [h2]) ⟨_,rfl,a,_,rfl,.inr sq1,rfl,_,rfl,?_⟩
     match r,ys,rt1,k,hl,tr,hd with
     |[],[],_,k,_,_,_=>exact ifF (by simp) (k _ s1)
     | [d],[y],.cons ry .nil,k,_,tr,hd=>
       have k:∀ H',Same H H'->Q (.bl (true && (a90 d && true))) H':=k
       rw [Bool.true_and,Bool.and_true] at k
       exact ifT (by simp) ⟨_,rfl,a,_,_,_,rfl,rfl,sq1,a09 (j:=1) rfl,n,rfl,y,d,rfl,ry,tr d (by simp),ah8 hd (by simp),fun H2 s2=>k _ (s1.trans s2)⟩
     |_::_::_,_::_::_,_,k,_,_,_=>exact ifF (by simp;omega) (k _ s1)
    ·rw [if_neg h2] at k
     exact ifF (by simp [h2]) ⟨_,rfl,a,f,r,rfl,rd1,.node af lf nr tr,fun H2 s2=>k _ (s1.trans s2)⟩
 induction n with
 |zero=>exact main 0 (fun n e=>by omega)
 |succ n ih=>exact main (n+1) (fun n' e=>by cases e;exact ih)
def spPa (K:Frag) (g:PyData->Nat) (n:Nat):Sp:=fun vs H Q _=>∃ (x:V) (d:PyData),vs=[x]/\Rep K H x d/\TD d/\a90 d=true/\a93 d≤n/\n≤10/\∀ H',Same H H'->Q (.int (g d:Nat)) H'
theorem scPa:a77 ["_law_test_here"] ["_law_test_here"] (a03 (top 52)):=⟨rfl,rfl,rfl,by decide +kernel,rfl,by decide +kernel,by decide +kernel⟩
theorem scDe:a77 ["_law_test_here"] ["_law_test_here"] (a03 (top 53)):=⟨rfl,rfl,rfl,by decide +kernel,rfl,by decide +kernel,by decide +kernel⟩
theorem ok_pa {f:Addr} {fd:FuncData} (DL:Def K mg "_law_parts" (top 52) ["_law_test_here"] f fd) (hsum:mg "sum" = none) (n:Nat):FnOk P w K mg base CX0 n f fd ["_law_test_here"] (spPa K aa1 n):=by
 refine Nat.rec (motive:=fun n=>FnOk P w K mg base CX0 n f fd ["_law_test_here"] (spPa K aa1 n)) ⟨fun _ _ _ _ h=>?_,fun _ _ _ _ _ _ _ _ _ _ _ _ _ h=>?_⟩ (fun n GL=>?_) n
 ·obtain ⟨x,d,_,_,_,_,hd,_⟩:=h
  exact absurd (Nat.le_trans (ad1 d) hd) (by decide)
 ·obtain ⟨x,d,_,_,_,_,hd,_⟩:=h
  exact absurd (Nat.le_trans (ad1 d) hd) (by decide)
 refine DL.F.ok scPa (fun vs H Q E h=>?_) (fun cdv A outer s H vs Q E hr h=>?_)
 ·obtain ⟨x,d,rfl,_⟩:=h
  rfl
 ·obtain ⟨x,d,rfl,rd,td,sh,hd,hn,k⟩:=h
  refine ⟨_,(a05 (a84 (a67 ag3 (a80 a78 (pv 0) a04 (fun _ _=>rfl)) (a96 (a00 a65 (a00 a65 (a00 a65 a01)))) rfl) (a06 (a69 a04)) a73)
   (a06 (a69 (a81 aa6 a04 (a08 (call_sumL rfl) (by rfl) hsum bt_sum (a00 (ak0 (g:=af9 0) (own:=["_law_part"]) (js:=[]) (N':=["_law_part"]) (a89.of (osc:=a03 (top 52)) (N:=["_law_test_here"]) rfl rfl ⟨rfl,by decide +kernel,by decide +kernel,by decide +kernel,rfl,by decide +kernel⟩) rfl (al2 (aa0 af3 (pv 0) (ab2 a04) ab1)) (fun _ _ _ _ _=>(a82 (i:=0) (show List.Nodup (["_law_part"]:List Str) by decide +kernel) rfl (Or.inl rfl) (Or.inr rfl))) (fun _ _ _ _ _=>ad8) (fun _ _ _ _ _=>a07 GL hr rfl DL.mg DL.F.kp DL.b .nil a74 (a00 (pv 0) a01))) a01)))))),?_⟩
  obtain ⟨f,r,rfl⟩:=aa4 td sh
  cases td with
  |node af lf nr tr=>
  cases rd with
  |@tup a xs _ sq rs=>
  obtain ⟨x0,ys,rfl⟩:∃ x0 ys,xs=x0::ys:=by cases rs;exact ⟨_,_,rfl⟩
  obtain ⟨r0,rt⟩:Rep K H x0 (.str f)/\Reps K H ys r:=by cases rs with|cons a b=>exact ⟨a,b⟩
  cases r0
  have hl:=rt.length
  refine ⟨_,rfl,a,_,_,_,rfl,rfl,sq,a09 (j:=0) rfl,(show 3≤sizeLine by decide),fun t ht=>?_⟩
  have s0:Same H (upd H t (.tup [.str "not",.str "and",.str "or"])):=Same.new ht
  refine ⟨t,_,rfl,.inr (SqT.of a02),rfl,rfl,_,rfl,?_⟩
  rw [inS3,ar_op]
  have sq0:=s0.tup sq
  have rt0:=rt.same s0
  generalize upd H t (.tup [.str "not",.str "and",.str "or"])=H0 at s0 sq0 rt0 ⊢
  have e:aa1 (.tuple (.str f::r))=if (arity f).isSome=true then 1+ad7 r else 1:=rfl
  rw [e] at k
  rcases aj8 sh hd with ⟨ha,hlf⟩|N
  ·rw [ha] at k ⊢
   exact ifT rfl (k _ s0)
  ·rw [N.ar] at k ⊢
   have k:∀ H',Same H H'->Q (.int (1+ad7 r:Nat)) H':=k
   have a2:=am0 N.ar
   refine ifF rfl ⟨_,rfl,1,rfl,a,_,rfl,sq0,(fun e=>?_),fun p hp=>?_⟩
   ·rw [cut1] at e
    have:=congrArg List.length e
    simp at this
   ·rw [cut1]
    have sp:SqT K (upd H0 p (.tup ys)) p ys:=SqT.of a02
    have s1:Same H0 (upd H0 p (.tup ys)):=Same.new hp
    generalize upd H0 p (.tup ys)=H1 at sp s1 ⊢
    refine ⟨p,rfl,⟨_,sp⟩,?_⟩
    refine ai6 (K:=K) (a:=p) (xs:=ys) (fun i zs σ' H'=>(∃ v,σ'=[v])/\Same H1 H'/\zs=((r.take i).map fun d=>V.int (aa1 d:Nat))) (Nat.le_trans (show ys.length≤20 by omega) (by decide)) ⟨⟨none,rfl⟩,Same.refl _,rfl⟩ (fun i zs σ' H' _ ⟨_,s2,_⟩=>s2.tup sp) ?_ ?_
    ·rintro i y zs σ' H2 hy hzs ⟨⟨v,rfl⟩,s2,rfl⟩ N' hN
     obtain ⟨d,hd,ry⟩:=rt0.get' hy
     have me:=List.mem_of_getElem? hd
     refine ⟨_,rfl,y,d,rfl,ry.same (s1.trans s2),tr d me,N.sh d me,N.de d me,by omega,fun H3 s3=>?_⟩
     exact hN _ _ _ (by rw [List.length_append,hzs];rfl) ⟨⟨_,rfl⟩,s2.trans s3,by rw [List.take_add_one,hd];simp⟩
    ·rintro zs σ' H2 hzs ⟨⟨v,rfl⟩,s2,rfl⟩
     rw [List.take_of_length_le (by omega)]
     have lr:(r.map fun d=>V.int (aa1 d:Nat)).length≤20:=by rw [List.length_map];omega
     refine ⟨Nat.le_trans lr (by decide),fun q hq=>?_⟩
     have s3:Same H (upd H2 q (.lst (r.map fun d=>V.int (aa1 d:Nat)))):=((s0.trans s1).trans s2).trans (Same.new hq)
     refine ⟨q,r.map fun d=>((aa1 d:Nat):Int),rfl,by rw [List.map_map];exact SqL.of a02,by rw [List.length_map];omega,fun x hx=>?_,_,_,rfl,rfl,?_⟩
     ·obtain ⟨d,md,rfl⟩:=List.mem_map.mp hx
      have:=parts_lt (N.sh d md) (N.de d md)
      have p20:2 ^ n≤2 ^ 10:=Nat.pow_le_pow_right (by decide) (by omega)
      have:(2:Nat) ^ 10=1024:=by decide
      omega
     ·have es:(r.map aa1).sum=ad7 r:=by
       clear k lr s3 hq
       have:∀ l:List PyData,(l.map aa1).sum=ad7 l:=by
        intro l
        induction l with
        |nil=>rfl
        |cons d l ih=>rw [List.map_cons,List.sum_cons,ih];rfl
       exact this r
      rw [sum_cast,es]
      have:=k _ s3
      rw [show ((1+ad7 r:Nat):Int)=1+((ad7 r:Nat):Int) by omega] at this
      exact this
theorem ok_de {f:Addr} {fd:FuncData} (DL:Def K mg "_law_deep" (top 53) ["_law_test_here"] f fd) (hmax:mg "max" = none) (n:Nat):FnOk P w K mg base CX0 n f fd ["_law_test_here"] (spPa K a93 n):=by
 refine Nat.rec (motive:=fun n=>FnOk P w K mg base CX0 n f fd ["_law_test_here"] (spPa K a93 n)) ⟨fun _ _ _ _ h=>?_,fun _ _ _ _ _ _ _ _ _ _ _ _ _ h=>?_⟩ (fun n GL=>?_) n
 ·obtain ⟨x,d,_,_,_,_,hd,_⟩:=h
  exact absurd (Nat.le_trans (ad1 d) hd) (by decide)
 ·obtain ⟨x,d,_,_,_,_,hd,_⟩:=h
  exact absurd (Nat.le_trans (ad1 d) hd) (by decide)
 refine DL.F.ok scDe (fun vs H Q E h=>?_) (fun cdv A outer s H vs Q E hr h=>?_)
 ·obtain ⟨x,d,rfl,_⟩:=h
  rfl
 ·obtain ⟨x,d,rfl,rd,td,sh,hd,hn,k⟩:=h
  refine ⟨_,(a05 (a84 (a67 ag3 (a80 a78 (pv 0) a04 (fun _ _=>rfl)) (a96 (a00 a65 (a00 a65 (a00 a65 a01)))) rfl) (a06 (a69 a04)) a73)
   (a06 (a69 (a81 aa6 a04 (a08 (call_maxL rfl) (by rfl) hmax bt_max (a00 (ak0 (g:=af9 0) (own:=["_law_part"]) (js:=[]) (N':=["_law_part"]) (a89.of (osc:=a03 (top 53)) (N:=["_law_test_here"]) rfl rfl ⟨rfl,by decide +kernel,by decide +kernel,by decide +kernel,rfl,by decide +kernel⟩) rfl (al2 (aa0 af3 (pv 0) (ab2 a04) ab1)) (fun _ _ _ _ _=>(a82 (i:=0) (show List.Nodup (["_law_part"]:List Str) by decide +kernel) rfl (Or.inl rfl) (Or.inr rfl))) (fun _ _ _ _ _=>ad8) (fun _ _ _ _ _=>a07 GL hr rfl DL.mg DL.F.kp DL.b .nil a74 (a00 (pv 0) a01))) a01)))))),?_⟩
  obtain ⟨f,r,rfl⟩:=aa4 td sh
  cases td with
  |node af lf nr tr=>
  cases rd with
  |@tup a xs _ sq rs=>
  obtain ⟨x0,ys,rfl⟩:∃ x0 ys,xs=x0::ys:=by cases rs;exact ⟨_,_,rfl⟩
  obtain ⟨r0,rt⟩:Rep K H x0 (.str f)/\Reps K H ys r:=by cases rs with|cons a b=>exact ⟨a,b⟩
  cases r0
  have hl:=rt.length
  refine ⟨_,rfl,a,_,_,_,rfl,rfl,sq,a09 (j:=0) rfl,(show 3≤sizeLine by decide),fun t ht=>?_⟩
  have s0:Same H (upd H t (.tup [.str "not",.str "and",.str "or"])):=Same.new ht
  refine ⟨t,_,rfl,.inr (SqT.of a02),rfl,rfl,_,rfl,?_⟩
  rw [inS3,ar_op]
  have sq0:=s0.tup sq
  have rt0:=rt.same s0
  generalize upd H t (.tup [.str "not",.str "and",.str "or"])=H0 at s0 sq0 rt0 ⊢
  have e:a93 (.tuple (.str f::r))=if (arity f).isSome=true then 1+ac4 r else 1:=rfl
  rw [e] at k
  rcases aj8 sh hd with ⟨ha,hlf⟩|N
  ·rw [ha] at k ⊢
   exact ifT rfl (k _ s0)
  ·rw [N.ar] at k ⊢
   have k:∀ H',Same H H'->Q (.int (1+ac4 r:Nat)) H':=k
   have a2:=am0 N.ar
   refine ifF rfl ⟨_,rfl,1,rfl,a,_,rfl,sq0,(fun e=>?_),fun p hp=>?_⟩
   ·rw [cut1] at e
    have:=congrArg List.length e
    simp at this
   ·rw [cut1]
    have sp:SqT K (upd H0 p (.tup ys)) p ys:=SqT.of a02
    have s1:Same H0 (upd H0 p (.tup ys)):=Same.new hp
    generalize upd H0 p (.tup ys)=H1 at sp s1 ⊢
    refine ⟨p,rfl,⟨_,sp⟩,?_⟩
    refine ai6 (K:=K) (a:=p) (xs:=ys) (fun i zs σ' H'=>(∃ v,σ'=[v])/\Same H1 H'/\zs=((r.take i).map fun d=>V.int (a93 d:Nat))) (Nat.le_trans (show ys.length≤20 by omega) (by decide)) ⟨⟨none,rfl⟩,Same.refl _,rfl⟩ (fun i zs σ' H' _ ⟨_,s2,_⟩=>s2.tup sp) ?_ ?_
    ·rintro i y zs σ' H2 hy hzs ⟨⟨v,rfl⟩,s2,rfl⟩ N' hN
     obtain ⟨d,hd,ry⟩:=rt0.get' hy
     have me:=List.mem_of_getElem? hd
     refine ⟨_,rfl,y,d,rfl,ry.same (s1.trans s2),tr d me,N.sh d me,N.de d me,by omega,fun H3 s3=>?_⟩
     exact hN _ _ _ (by rw [List.length_append,hzs];rfl) ⟨⟨_,rfl⟩,s2.trans s3,by rw [List.take_add_one,hd];simp⟩
    ·rintro zs σ' H2 hzs ⟨⟨v,rfl⟩,s2,rfl⟩
     rw [List.take_of_length_le (by omega)]
     have lr:(r.map fun d=>V.int (a93 d:Nat)).length≤20:=by rw [List.length_map];omega
     refine ⟨Nat.le_trans lr (by decide),fun q hq=>?_⟩
     have s3:Same H (upd H2 q (.lst (r.map fun d=>V.int (a93 d:Nat)))):=((s0.trans s1).trans s2).trans (Same.new hq)
     refine ⟨q,r.map fun d=>((a93 d:Nat):Int),rfl,by rw [List.map_map];exact SqL.of a02,?_,fun b hb hm=>⟨_,_,rfl,rfl,?_⟩⟩
     ·intro z
      have:=congrArg List.length z
      rw [List.length_map] at this
      simp at this
      rw [this] at a2
      simp at a2
     ·rw [max_deeps a2 hb hm]
      have:=k _ s3
      rw [show ((1+ac4 r:Nat):Int)=1+((ac4 r:Nat):Int) by omega] at this
      exact this
def spTo (K:Frag):Sp:=fun vs H Q _=>∃ (x:V) (d:PyData),vs=[x]/\Rep K H x d/\TD d/\a99 d≤8/\∀ H',Same H H'->Q (.bl (ad4 d)) H'
theorem scTo:a77 ["_law_test_here"] ["_law_test_here"] (a03 (top 57)):=⟨rfl,rfl,rfl,by decide +kernel,rfl,by decide +kernel,by decide +kernel⟩
theorem ok_to {f fS fD fP:Addr} {fd fdS fdD fdP:FuncData} (F:Fun K "_law_test_ok" "_law_test_ok" (top 57) f fd) (DS:Def K mg "_law_shape_ok" (top 56) ["_law_test_here"] fS fdS) (GS:FnOk P w K mg base CX0 11 fS fdS ["_law_test_here"] (spSo K 8))
 (DD:Def K mg "_law_deep" (top 53) ["_law_test_here"] fD fdD) (GD:FnOk P w K mg base CX0 8 fD fdD ["_law_test_here"] (spPa K a93 8)) (DP:Def K mg "_law_parts" (top 52) ["_law_test_here"] fP fdP) (GP:FnOk P w K mg base CX0 8 fP fdP ["_law_test_here"] (spPa K aa1 8)):FnOk P w K mg base CX0 12 f fd ["_law_test_here"] (spTo K):=by
 refine F.ok scTo (fun vs H Q E h=>?_) (fun cdv A outer s H vs Q E hr h=>?_)
 ·obtain ⟨x,d,rfl,_⟩:=h
  rfl
 ·obtain ⟨x,d,rfl,rd,td,hd,k⟩:=h
  have hr8:Room 8 _:=hr.mono (by decide)
  refine ⟨_,(a06 (a69 (aa5 (a07 GS hr rfl DS.mg DS.F.kp DS.b .nil a74 (a00 (pv 0) a01)) (aa5 (a94 af8 (a07 GD hr8 rfl DD.mg DD.F.kp DD.b .nil a74 (a00 (pv 0) a01)) a04 (a72 _)) (ac7 (a94 af8 (a07 GP hr8 rfl DP.mg DP.F.kp DP.b .nil a74 (a00 (pv 0) a01)) a04 (a72 _))))))),?_⟩
  refine ⟨_,rfl,x,d,rfl,rd,td,hd,fun H1 s1=>⟨_,rfl,?_⟩⟩
  unfold ad4 at k
  cases sh:a90 d with
  |false=>rw [sh] at k;exact ifF rfl (k _ s1)
  | true=>
    rw [sh,Bool.true_and] at k
    have dd:a93 d≤8:=Nat.le_trans (deep_dep td sh) hd
    refine ifT rfl ⟨_,rfl,x,d,rfl,rd.same s1,td,sh,dd,by decide,fun H2 s2=>⟨_,_,rfl,rfl,_,rfl,?_⟩⟩
    by_cases h5:a93 d≤5
    ·rw [decide_eq_true h5,Bool.true_and] at k
     refine ifT (by simp;omega) ⟨_,rfl,x,d,rfl,rd.same (s1.trans s2),td,sh,dd,by decide,fun H3 s3=>⟨_,_,rfl,rfl,?_⟩⟩
     have:=k _ ((s1.trans s2).trans s3)
     rw [show decide (aa1 d≤15)=decide (((aa1 d:Nat):Int)≤15) by rw [Bool.eq_iff_iff];simp;omega] at this
     exact this
    ·rw [decide_eq_false h5,Bool.false_and] at k
     exact ifF (by simp;omega) (k _ (s1.trans s2))
end
def cutD (xs:List PyData) (lo hi:Option Int):List PyData:=(xs.drop (HT.sIx xs.length 0 lo)).take (HT.sIx xs.length xs.length hi-HT.sIx xs.length 0 lo)
theorem an3 {K:Frag} {H:Hp}:∀ (n:Nat) {vs:List V} {ds:List PyData},Reps K H vs ds->Reps K H (vs.drop n) (ds.drop n)
 |0,_,_,h=>h
 |_+1,_,_,.nil=>.nil
 |n+1,_,_,.cons _ h=>an3 n h
theorem reps_take {K:Frag} {H:Hp}:∀ (n:Nat) {vs:List V} {ds:List PyData},Reps K H vs ds->Reps K H (vs.take n) (ds.take n)
 |0,_,_,_=>.nil
 |_+1,_,_,.nil=>.nil
 |n+1,_,_,.cons a h=>.cons a (reps_take n h)
theorem at5 {K:Frag} {H:Hp} {a:Addr} {ds:List PyData} {lo hi:Option Int} {Q:VK} (ra:Rep K H (.ref a) (.tuple ds)) (k:∀ v H',Same H H'->Rep K H' (.ref v) (.tuple (cutD ds lo hi))->Q (.ref v) H'):rSlW K (.ref a) lo hi H Q:=by
 cases ra with
 |@tup _ xs _ sq rs=>
 have hl:=rs.length
 have rc:Reps K H (cutV xs lo hi) (cutD ds lo hi):=by
  unfold cutV cutD
  rw [hl]
  exact reps_take _ (an3 _ rs)
 refine ⟨a,xs,rfl,sq,fun e=>k a H (Same.refl _) ?_,fun p hp=>k p _ (Same.new hp) (.tup (SqT.of a02) (rc.same (Same.new hp)))⟩
 rw [e] at rc
 exact .tup sq rc
theorem as8 {K:Frag} {H:Hp} {a b:Addr} {ds es:List PyData} {Q:VK} (ra:Rep K H (.ref a) (.tuple ds)) (rb:Rep K H (.ref b) (.tuple es)) (l:ds.length+es.length≤1000) (k:∀ v H',Same H H'->Rep K H' (.ref v) (.tuple (ds++es))->Q (.ref v) H'):rCatA K (.ref a) (.ref b) H Q:=by
 cases ra with
 |@tup _ xs _ sq rs=>
 cases rb with
 |@tup _ ys _ sq' rs'=>
 have hl:=rs.length
 have hl':=rs'.length
 have big:1000≤sizeLine:=by decide
 refine ⟨a,b,xs,ys,rfl,rfl,sq,sq',by omega,fun e=>k b H (Same.refl _) ?_,fun e=>k a H (Same.refl _) ?_,fun p hp=>k p _ (Same.new hp) (.tup (SqT.of a02) ((al9 rs rs').same (Same.new hp)))⟩
 ·subst e
  cases rs
  exact .tup sq' rs'
 ·subst e
  cases rs'
  rw [List.append_nil]
  exact .tup sq rs
theorem cutD_tail (x:PyData) (r:List PyData):cutD (x::r) (some 1) none=r:=by
 simp [cutD,HT.sIx]
theorem cutD_take {ds:List PyData} {v:Int} {k:Nat} (h:v=(k:Nat)) (hk:k≤ds.length):cutD ds none (some v)=ds.take k:=by
 subst h
 unfold cutD
 rw [HT.sIx_nat,HT.am1,List.drop_zero,Nat.sub_zero,Nat.min_eq_left hk]
theorem cutD_drop {ds:List PyData} {v:Int} {k:Nat} (h:v=(k:Nat)) (hk:k≤ds.length):cutD ds (some v) none=ds.drop k:=by
 subst h
 unfold cutD
 rw [HT.sIx_nat,HT.am1,Nat.min_eq_left hk]
 exact List.take_of_length_le (by rw [List.length_drop];omega)
theorem cutD_last (x:PyData) (r:List PyData):cutD (x::r) none (some (-1))=(x::r).take r.length:=by
 unfold cutD
 have e:HT.sIx (x::r).length (x::r).length (some (-1))=r.length:=by
  unfold HT.sIx
  simp only [List.length_cons]
  rw [if_pos (by decide)]
  omega
 rw [e,HT.am1,List.drop_zero,Nat.sub_zero]
structure Bd (n:Nat) (e:PyData):Prop where
 td:TD e
 dp:a99 e≤n
theorem deps_le {n:Nat}:∀ {l:List PyData},(∀ d∈l,a99 d≤n)->a95 l≤n
 |[],_=>Nat.zero_le _
 | d::l,h=>by
   have h1:=h d (List.mem_cons_self ..)
   have h2:=deps_le fun d m=>h d (List.mem_cons_of_mem _ m)
   show max (a99 d) (a95 l)≤n
   omega
theorem ad5 {n:Nat} {f:Str} {r:List PyData} (a:Asc f) (l:f.length≤40) (lr:r.length≤4) (h:∀ d∈r,Bd n d):Bd (n+1) (.tuple (.str f::r)):=by
 refine ⟨.node a l lr fun d m=>(h d m).td,?_⟩
 have:=deps_le fun d m=>(h d m).dp
 show max 0 (a95 r)+1≤n+1
 omega
theorem Bd.mono {n m:Nat} {e:PyData} (h:Bd n e) (l:n≤m):Bd m e:=⟨h.td,Nat.le_trans h.dp l⟩
theorem bd_str {n:Nat} {x:Str} (a:Asc x) (l:x.length≤40):Bd n (.str x):=⟨.str a l,Nat.zero_le _⟩
theorem ap4 {n:Nat} {i:Int} (a:-Huge≤i) (b:i≤Huge):Bd n (.int i):=⟨.int a b,Nat.zero_le _⟩
theorem bd_all {n:Nat}:Bd (n+1) (.tuple [.str "all"]):=ad5 (by unfold Asc;decide +kernel) (by decide +kernel) (by simp) (by simp)
theorem Tr.node {n:Nat} {d:PyData} (h:Tr n d):∃ f r k,n=k+1/\d=.tuple (.str f::r)/\Asc f/\f.length≤40/\r.length≤2/\(∀ e∈r,Bd k e)/\((arity f).isSome=true->1≤r.length/\∀ e∈r,Tr k e):=by
 obtain ⟨f,r,rfl⟩:=aa4 h.td h.sh
 have hd:=h.dp
 have hd':max 0 (a95 r)+1≤n:=hd
 obtain ⟨k,rfl⟩:∃ k,n=k+1:=⟨n-1,by omega⟩
 have td:=h.td
 cases td with
 |node a l lr tr=>
 have bds:∀ e∈r,Bd k e:=fun e m=>⟨tr e m,ah8 hd m⟩
 rcases aj8 (n:=a93 (.tuple (.str f::r))) h.sh (by omega) with ⟨ha,hl⟩|N
 ·have lf:=leaf_of hl
  refine ⟨f,r,k,rfl,rfl,a,l,?_,bds,fun z=>by rw [ha] at z;cases z⟩
  cases lf <;> simp
 ·have a2:=am0 N.ar
  exact ⟨f,r,k,rfl,rfl,a,l,a2.2,bds,fun _=>⟨a2.1,fun e m=>⟨tr e m,N.sh e m,ah8 hd m⟩⟩⟩
section
variable {P:Program} {w:World} {K:PySem.W.Frag} {mg:Str->Option Value} {base:Heap}
def spBu (K:Frag) (n:Nat):Sp:=fun vs H Q _=>∃ (p dc:Addr) (x:V) (d:PyData),vs=[.ref p,x]/\Dr H p dc/\Rep K H x d/\Tr n d/\n≤10/\∀ (y:V) (e:PyData) (H':Hp),Rep K H' y e->Bd (n+1) e->Dr H' p dc->But p H H'->(∃ es,e=.tuple es)->Q y H'
abbrev NBt:List Str:=["_law_d","_law_test_here","_law_way","_law_at"]
theorem scBt:a77 NBt ["_law_d","_law_test_here"] (a03 (top 58)):=⟨rfl,rfl,rfl,by decide +kernel,rfl,by decide +kernel,by decide +kernel⟩
theorem ok_bu {f fP fO fW fFr fOd:Addr} {fd fdP fdO fdW fdFr fdOd:FuncData} (DB:Def K mg "_law_bent_test" (top 58) ["_law_d","_law_test_here"] f fd) (T:Txt K mg) (DP:Def K mg "_law_pick" (top 35) ["_law_d","_law_many"] fP fdP) (DO:Def K mg "_law_of" (top 36) ["_law_d","_law_things"] fO fdO)
 (DW:Def K mg "_law_word" (top 39) ["_law_d"] fW fdW) (DFr:Def K mg "_law_far" (top 37) ["_law_d"] fFr fdFr) (DOd:Def K mg "_law_odd_name" (top 46) ["_law_d","_law_text"] fOd fdOd) (n:Nat):FnOk P w K mg base CX0 (n+4) f fd ["_law_d","_law_test_here"] (spBu K n):=by
 have GP:FnOk P w K mg base CX0 1 fP fdP ["_law_d","_law_many"] ac9:=ab5 DP.F T
 have GO:FnOk P w K mg base CX0 2 fO fdO ["_law_d","_law_things"] (spOf K):=aq8 DO.F T DP
 have GW:FnOk P w K mg base CX0 3 fW fdW ["_law_d"] aq2:=ok_word DW.F T DP DO
 have GF:FnOk P w K mg base CX0 2 fFr fdFr ["_law_d"] spFar:=ok_far DFr.F T DP
 have GOd:FnOk P w K mg base CX0 3 fOd fdOd ["_law_d","_law_text"] spOdd:=ok_odd DOd.F T DP DO
 have main:∀ m:Nat,(∀ j,j+1=m->FnOk P w K mg base CX0 (j+4) f fd ["_law_d","_law_test_here"] (spBu K j))->FnOk P w K mg base CX0 (m+4) f fd ["_law_d","_law_test_here"] (spBu K m):=by
  intro m GC
  have GB:FnOk P w K mg base CX0 (m+3) f fd ["_law_d","_law_test_here"] (fun vs H Q E=>∃ j,j+1=m/\spBu K j vs H Q E):=by
   match m,GC with
   |0,_=>exact ⟨fun _ _ _ _ ⟨n,e,_⟩=>by omega,fun _ _ _ _ _ _ _ _ _ _ _ _ _ ⟨n,e,_⟩=>by omega⟩
   | m+1,GC=>
     have G:=GC m rfl
     exact ⟨fun vs H Q E ⟨n,e,h⟩=>by cases e;exact G.1 vs H Q E h,fun a1 a2 a3 a4 a5 a6 a7 a8 a9 a10 a11 a12 a13 ⟨n,e,h⟩=>by cases e;exact G.2 a1 a2 a3 a4 a5 a6 a7 a8 a9 a10 a11 a12 a13 h⟩
  refine DB.F.ok scBt (fun vs H Q E h=>?_) (fun cdv A outer s H vs Q E hr h=>?_)
  ·obtain ⟨p,dc,x,d,rfl,_⟩:=h
   rfl
  ·obtain ⟨p,dc,x,d,rfl,D,rd,tr,hm,k⟩:=h
   have k:∀ (y:V) (e:PyData) (H':Hp),Rep K H' y e->Bd (m+1) e->Dr H' p dc->But p H H'->(_:∃ es,e=.tuple es:=by exact ⟨_,rfl⟩)->Q y H':=k
   have hr1:Room 1 _:=hr.mono (by omega)
   have hr2:Room 2 _:=hr.mono (by omega)
   have hr3:Room 3 _:=hr.mono (by omega)
   refine ⟨_,(a05 (a84 (PW.pt (ap3 (af6 (ac8 (a08 a88 (by rfl) T.isinstance a76 (a00 (pv 1) (a00 (ac5 rfl T.tuple ac2) a01))))) (ai1 (a67 (op_eqD hr.units) (pv 1) (a96 a01) (a72 _))))) (a06 (a69 (pv 1))) a73)
    (a05 (a79 (i:=2) scBt.nd rfl (Or.inl rfl) (a07 GP hr1 rfl DP.mg DP.F.kp DP.b .nil a74 (a00 (pv 0) (a00 a04 a01))))
    (a05 (a84 (PW.pt (ap7 (a67 op_gt (a08 a66 (by rfl) T.len a86 (a00 (pv 1) a01)) a04 (a72 _)) (ap7 (a67 ad2 (a80 a78 (pv 1) a04 (fun _ _=>rfl)) (a96 (a00 a65 (a00 a65 (a00 a65 a01)))) rfl) (ao9 (a67 a85 (a07 GP hr1 rfl DP.mg DP.F.kp DP.b .nil a74 (a00 (pv 0) (a00 a04 a01))) a04 (a72 _)))))) (a05 (a79 (i:=3) scBt.nd rfl (Or.inl rfl) (a81 aa6 a04 (a07 GP hr1 rfl DP.mg DP.F.kp DP.b .nil a74 (a00 (pv 0) (a00 (a81 ae0 (a08 a66 (by rfl) T.len a86 (a00 (pv 1) a01)) a04) a01))))) (a06 (a69 (a81 at4 (a81 at4 (aa0 af3 (pv 1) ab1 (ab2 (pv 3))) (a96 (a00 (a07 GB hr rfl DB.mg DB.F.kp DB.b .nil a74 (a00 (pv 0) (a00 (a80 a78 (pv 1) (pv 3) (fun _ _=>rfl)) a01))) a01))) (aa0 af3 (pv 1) (ab2 (a81 aa6 (pv 3) a04)) ab1))))) a73)
    (a05 (a84 (a67 a85 (pv 2) a04 (a72 _)) (a06 (a69 (aa0 af3 (pv 1) ab1 (ab2 (aq9 ai8 a04))))) a73)
    (a05 (a84 (a67 a85 (pv 2) a04 (a72 _)) (a06 (a69 (a81 at4 (pv 1) (a96 (a00 (a07 GO hr2 rfl DO.mg DO.F.kp DO.b .nil a74 (a00 (pv 0) (a00 (a97 (a00 (a96 (a00 a65 a01)) (a00 a04 (a00 a65 a01)))) a01))) a01))))) a73)
    (a05 (a84 (a67 a85 (pv 2) a04 (a72 _)) (a06 (a69 (a81 at4 (a96 (a00 (a07 GO hr2 rfl DO.mg DO.F.kp DO.b .nil a74 (a00 (pv 0) (a00 (a97 (a00 a65 (a00 a65 (a00 a65 (a00 a65 (a00 a65 a01)))))) a01))) a01)) (aa0 af3 (pv 1) (ab2 a04) ab1)))) a73)
    (a05 (a84 (a67 a85 (pv 2) a04 (a72 _)) (a06 (a69 (a96 (a00 a65 (a00 (a07 GOd hr3 rfl DOd.mg DOd.F.kp DOd.b .nil a74 (a00 (pv 0) (a00 (a07 GW hr3 rfl DW.mg DW.F.kp DW.b .nil a74 (a00 (pv 0) a01)) a01))) (a00 a04 a01)))))) a73)
    (a05 (a84 (a67 a85 (pv 2) a04 (a72 _)) (a06 (a69 (a96 (a00 a65 (a00 (a07 GW hr3 rfl DW.mg DW.F.kp DW.b .nil a74 (a00 (pv 0) a01)) (a00 (a07 GO hr2 rfl DO.mg DO.F.kp DO.b .nil a74 (a00 (pv 0) (a00 (a97 (a00 a04 (a00 (aq9 ai8 a04) (a00 (a07 GF hr2 rfl DFr.mg DFr.F.kp DFr.b .nil a74 (a00 (pv 0) a01)) (a00 (a96 (a00 a65 a01)) a01))))) a01))) a01)))))) a73)
    (a05 (a84 (a67 a85 (pv 2) a04 (a72 _)) (a06 (a69 (a96 (a00 a65 (a00 (a07 GOd hr3 rfl DOd.mg DOd.F.kp DOd.b .nil a74 (a00 (pv 0) (a00 (a07 GW hr3 rfl DW.mg DW.F.kp DW.b .nil a74 (a00 (pv 0) a01)) a01))) a01))))) a73)
    (a05 (a84 (a67 a85 (pv 2) a04 (a72 _)) (a06 (a69 (a96 (a00 a65 (a00 (pv 1) (a00 (pv 1) a01)))))) a73)
    (a05 (a84 (a67 a85 (pv 2) a04 (a72 _)) (a06 (a69 (a96 (a00 a65 (a00 (pv 1) a01))))) a73)
    (a05 (a84 (a67 a85 (pv 2) a04 (a72 _)) (a06 (a69 (a96 (a00 a65 (a00 (pv 1) (a00 (a07 GO hr2 rfl DO.mg DO.F.kp DO.b .nil a74 (a00 (pv 0) (a00 (a97 (a00 a65 (a00 a04 (a00 (a96 (a00 a65 a01)) a01)))) a01))) a01)))))) a73)
    (a06 (a69 (pv 1))))))))))))))),?_⟩
   obtain ⟨f,r,n,rfl,rfl,af,lf,lr,bds,hop⟩:=tr.node
   have rd0:=rd
   cases rd with
   |@tup a xs _ sq rs=>
   obtain ⟨x0,ys,rfl⟩:∃ x0 ys,xs=x0::ys:=by cases rs;exact ⟨_,_,rfl⟩
   obtain ⟨r0,rt⟩:Rep K H x0 (.str f)/\Reps K H ys r:=by cases rs with|cons a b=>exact ⟨a,b⟩
   cases r0
   have hl:=rt.length
   have bd0:Bd (n+1) (.tuple (.str f::r)):=⟨tr.td,tr.dp⟩
   have h1000:1000≤sizeLine:=by decide
   have hu:(1000000:Int)≤Huge:=by decide
   refine ⟨_,rfl,_,_,_,_,rfl,rd0,rfl,_,rfl,ifF rfl ?_⟩
   refine ⟨_,rfl,(show 0≤sizeLine by decide),fun t0 ht0=>?_⟩
   have s0:Same H (upd H t0 (.tup [])):=Same.new ht0
   refine ⟨_,_,rd0.same s0,.tup (SqT.of a02) .nil,?_,_,rfl,ifF rfl ?_⟩
   ·have:=tr.dp;omega
   have D0:Dr (upd H t0 (.tup [])) p dc:=D.mono s0
   have rd1:=rd0.same s0
   have b0:But p H (upd H t0 (.tup [])):=s0.but
   generalize upd H t0 (.tup [])=H0 at s0 D0 rd1 b0 ⊢
   refine ⟨_,rfl,p,dc,_,rfl,D0,by decide,by decide,fun w1 H1 w0 w10 D1 b1=>?_⟩
   have rd2:=D0.rep b1 rd1
   have b01:=b0.trans b1
   clear rd1 b1 D0 s0
   try dsimp only [af9]
   refine al3 (fun σ' H'=>(∃ u,σ'=[some (.ref p),some (.ref a),some (.int w1),u])/\Dr H' p dc/\But p H H'/\Rep K H' (.ref a) (.tuple (.str f::r))) ?nx fun N hN=>?st
   case st=>
    have sqOf:∀ {H':Hp},Rep K H' (.ref a) (.tuple (.str f::r))->∃ zs,SqT K H' a (.str f::zs)/\Reps K H' zs r:=by
     intro H' h
     cases h with
     |@tup _ zs _ q1 q2=>
     cases q2 with
     |@cons z0 _ zs _ q3 q4=>
     cases q3
     exact ⟨zs,q1,q4⟩
    obtain ⟨zs,sq2,rz2⟩:=sqOf rd2
    have hz:=rz2.length
    refine ⟨_,rfl,a,_,rfl,.inr sq2,_,_,rfl,rfl,_,rfl,ite2 (fun hlen=>?_) (fun _=>hN _ _ ⟨⟨_,rfl⟩,D1,b01,rd2⟩)⟩
    refine ⟨_,rfl,a,_,_,_,rfl,rfl,sq2,a09 (j:=0) rfl,(show 3≤sizeLine by decide),fun t ht=>?_⟩
    have s2:Same H1 (upd H1 t (.tup [.str "not",.str "and",.str "or"])):=Same.new ht
    refine ⟨t,_,rfl,.inr (SqT.of a02),rfl,rfl,_,rfl,?_⟩
    rw [inS3,ar_op]
    have rd3:=rd2.same s2
    have D2:=D1.mono s2
    have b2:But p H (upd H1 t (.tup [.str "not",.str "and",.str "or"])):=b01.trans s2.but
    generalize upd H1 t (.tup [.str "not",.str "and",.str "or"])=H2 at s2 rd3 D2 b2 ⊢
    refine ite2 (fun ho=>?_) (fun _=>hN _ _ ⟨⟨_,rfl⟩,D2,b2,rd3⟩)
    obtain ⟨r1,trs⟩:=hop ho
    refine ⟨_,rfl,p,dc,_,rfl,D2,by decide,by decide,fun q H3 q0 q1 D3 b3=>⟨rfl,_,rfl,ite2 (fun _=>?_) (fun _=>hN _ _ ⟨⟨_,rfl⟩,D3,b2.trans b3,D2.rep b3 rd3⟩)⟩⟩
    have rd4:=D2.rep b3 rd3
    have b4:=b2.trans b3
    obtain ⟨zs4,sq4,rz4⟩:=sqOf rd4
    have hz4:=rz4.length
    refine ⟨_,rfl,_,rfl,a,_,rfl,.inr sq4,_,_,rfl,rfl,p,dc,_,rfl,D3,?_,?_,fun j H5 j0 j1 D5 b5=>⟨_,_,rfl,rfl,?_⟩⟩
    ·simp only [List.length_cons];omega
    ·simp only [List.length_cons];omega
    obtain ⟨i,rfl⟩:=Int.eq_ofNat_of_zero_le j0
    have hi:i<r.length:=by simp only [List.length_cons] at j1;omega
    have rd5:=D3.rep b5 rd4
    have b5':=b4.trans b5
    have ai:(1+(i:Int))=((i+1:Nat):Int):=by omega
    have ai2:(1+(i:Int)+1)=((i+2:Nat):Int):=by omega
    refine ⟨_,rfl,_,rfl,_,rfl,at5 rd5 fun v1 H6 s6 rv1=>?_⟩
    rw [cutD_take ai (by simp;omega)] at rv1
    have rd6:=rd5.same s6
    have D6:=D5.mono s6
    obtain ⟨zs6,sq6,rz6⟩:=sqOf rd6
    have hz6:=rz6.length
    have hi6:i<zs6.length:=by omega
    obtain ⟨e,he,ry⟩:=rz6.get' (List.getElem?_eq_getElem hi6)
    have me:=List.mem_of_getElem? he
    refine ⟨_,rfl,_,rfl,_,rfl,a,_,_,zs6[i],rfl,rfl,sq6,(by rw [ai];exact a09 (by rw [List.getElem?_cons_succ];exact List.getElem?_eq_getElem hi6)),n,rfl,p,dc,_,e,rfl,D6,ry,trs e me,by omega,fun y2 e2 H7 ry2 bd2 D7 b7 _=>⟨(show 1≤sizeLine by decide),fun t7 ht7=>?_⟩⟩
    have s8:Same H7 (upd H7 t7 (.tup [y2])):=Same.new ht7
    have b8:But p H (upd H7 t7 (.tup [y2])):=((b5'.trans s6.but).trans b7).trans s8.but
    refine as8 ((D6.rep b7 rv1).same s8) (.tup (SqT.of a02) (.cons (ry2.same s8) .nil)) (by simp;omega) fun v9 H9 s9 rv9=>?_
    have rd9:=((D6.rep b7 rd6).same s8).same s9
    refine ⟨_,rfl,_,rfl,_,_,rfl,rfl,_,rfl,?_⟩
    dsimp only [as6]
    refine at5 rd9 fun v10 H10 s10 rv10=>?_
    rw [cutD_drop ai2 (by simp;omega)] at rv10
    refine as8 (rv9.same s10) rv10 (by simp;omega) fun v11 H11 s11 rv11=>?_
    have ee:((PyData.str f::r).take (i+1)++[e2]++(PyData.str f::r).drop (i+2))=.str f::(r.take i++[e2]++r.drop (i+1)):=by
     rw [List.take_succ_cons,List.drop_succ_cons];rfl
    rw [ee] at rv11
    refine k _ _ H11 rv11 (ad5 af lf (by simp;omega) fun d m=>?_) (((D7.mono s8).mono s9).mono (s10.trans s11)) (((b8.trans s9.but).trans s10.but).trans s11.but)
    simp only [List.mem_append,List.mem_singleton] at m
    rcases m with (m|m)|m
    ·exact (bds d (List.mem_of_mem_take m)).mono (by omega)
    ·subst m;exact bd2
    ·exact (bds d (List.mem_of_mem_drop m)).mono (by omega)
   rintro σ' H2 ⟨⟨u,rfl⟩,D2,b2,rd3⟩
   refine ⟨_,rfl,rfl,_,rfl,ite2 (fun _=>?_) (fun _=>?_)⟩
   ·refine ⟨_,rfl,1,rfl,_,rfl,at5 rd3 fun v1 H3 s3 rv=>?_⟩
    have rv:Rep K H3 (.ref v1) (.tuple (cutD (.str f::r) none (some (-1)))):=rv
    rw [cutD_last] at rv
    cases r with
    |nil=>exact k _ _ H3 rv ⟨.nil,by simp [a99,a95]⟩ (D2.mono s3) (b2.trans s3.but)
    | cons d r=>
      rw [List.length_cons,List.take_succ_cons] at rv
      exact k _ _ H3 rv (ad5 af lf (by simp at lr ⊢;omega) fun e m=>(bds e (List.mem_of_mem_take m)).mono (by omega)) (D2.mono s3) (b2.trans s3.but)
   refine ⟨_,rfl,rfl,_,rfl,ite2 (fun _=>?_) (fun _=>?_)⟩
   ·refine ⟨_,rfl,_,rfl,(show 1≤sizeLine by decide),fun t ht=>⟨(show 3≤sizeLine by decide),fun q hq=>?_⟩⟩
    have s4:Same H2 (upd (upd H2 t (.tup [.str "all"])) q (.lst [.ref t,.int 3,.str "ab"])):=(Same.new ht).trans (Same.new hq)
    have rt4:Rep K (upd (upd H2 t (.tup [.str "all"])) q (.lst [.ref t,.int 3,.str "ab"])) (.ref t) (.tuple [.str "all"]):=.tup (SqT.of (Same.new hq _ _ a02)) (.cons (.str _) .nil)
    refine ⟨p,dc,q,_,rfl,D2.mono s4,SqL.of a02,by simp,by simp,fun y H5 hy D5 b5=>⟨(show 1≤sizeLine by decide),fun t6 ht6=>?_⟩⟩
    obtain ⟨e,re,be⟩:∃ e,Rep K H5 y e/\Bd (n+1) e:=by
     simp only [List.mem_cons,List.not_mem_nil,or_false] at hy
     rcases hy with rfl|rfl|rfl
     ·exact ⟨_,(D2.mono s4).rep b5 rt4,bd_all⟩
     ·exact ⟨_,.int _,ap4 (by omega) (by omega)⟩
     ·exact ⟨_,.str _,bd_str (by unfold Asc;decide +kernel) (by decide +kernel)⟩
    have s6:Same H5 (upd H5 t6 (.tup [y])):=Same.new ht6
    refine as8 (((D2.mono s4).rep b5 (rd3.same s4)).same s6) (.tup (SqT.of a02) (.cons (re.same s6) .nil)) (by simp;omega) fun v H7 s7 rv=>?_
    refine k _ _ H7 rv (ad5 (r:=r++[e]) af lf (by simp;omega) fun d m=>?_) ((D5.mono s6).mono s7) ((((b2.trans s4.but).trans b5).trans s6.but).trans s7.but)
    rcases List.mem_append.mp m with m|m
    ·exact (bds d m).mono (by omega)
    ·simp at m;subst m;exact be
   refine ⟨_,rfl,rfl,_,rfl,ite2 (fun _=>?_) (fun _=>?_)⟩
   ·refine ⟨_,rfl,(show 5≤sizeLine by decide),fun q hq=>?_⟩
    have s4:Same H2 (upd H2 q (.lst [.str "",.str "All",.str "more",.str "xor",.str "less"])):=Same.new hq
    refine ⟨p,dc,q,_,rfl,D2.mono s4,SqL.of a02,by simp,by simp,fun y H5 hy D5 b5=>⟨(show 1≤sizeLine by decide),fun t6 ht6=>?_⟩⟩
    obtain ⟨z,rfl,az,lz⟩:∃ z:Str,y=.str z/\Asc z/\z.length≤40:=by
     simp only [List.mem_cons,List.not_mem_nil,or_false] at hy
     rcases hy with rfl|rfl|rfl|rfl|rfl
     all_goals exact ⟨_,rfl,by unfold Asc;decide +kernel,by decide +kernel⟩
    have s6:Same H5 (upd H5 t6 (.tup [.str z])):=Same.new ht6
    have rd6:=((D2.mono s4).rep b5 (rd3.same s4)).same s6
    have rt6:Rep K (upd H5 t6 (.tup [.str z])) (.ref t6) (.tuple [.str z]):=.tup (SqT.of a02) (.cons (.str _) .nil)
    refine ⟨_,rfl,1,rfl,?_⟩
    dsimp only [as6]
    refine at5 rd6 fun v7 H7 s7 rv7=>?_
    rw [cutD_tail] at rv7
    refine as8 (rt6.same s7) rv7 (by simp;omega) fun v H8 s8 rv=>?_
    exact k _ _ H8 rv (ad5 (r:=r) az lz (by omega) fun d m=>(bds d m).mono (by omega)) (((D5.mono s6).mono s7).mono s8) (((((b2.trans s4.but).trans b5).trans s6.but).trans s7.but).trans s8.but)
   refine ⟨_,rfl,rfl,_,rfl,ite2 (fun _=>?_) (fun _=>?_)⟩
   ·refine ⟨_,rfl,_,rfl,p,dc,rfl,D2,fun z H3 nz D3 b3=>⟨p,dc,z,rfl,D3,by have:=nz.hi;omega,asc_nm nz,fun o H4 ao lo D4 b4=>⟨(show 3≤sizeLine by decide),fun t ht=>?_⟩⟩⟩
    have:=nz.hi
    refine k _ (.tuple [.str "less",.str o,.int 4]) _ (.tup (SqT.of a02) (.cons (.str _) (.cons (.str _) (.cons (.int _) .nil)))) (ad5 (by unfold Asc;decide +kernel) (by decide +kernel) (by simp) fun d m=>?_) (D4.new ht) (((b2.trans b3).trans b4).trans (But.new ht))
    simp at m
    rcases m with rfl|rfl
    ·exact bd_str ao (by omega)
    ·exact ap4 (by omega) (by omega)
   refine ⟨_,rfl,rfl,_,rfl,ite2 (fun _=>?_) (fun _=>?_)⟩
   ·refine ⟨_,rfl,p,dc,rfl,D2,fun z H3 nz D3 b3=>⟨_,rfl,1000000,rfl,_,rfl,p,dc,rfl,D3,fun g H4 g1 g2 D4 b4=>⟨(show 1≤sizeLine by decide),fun t ht=>⟨(show 4≤sizeLine by decide),fun q hq=>?_⟩⟩⟩⟩
    have s5:Same H4 (upd (upd H4 t (.tup [.str "all"])) q (.lst [.int 1000000,.int (-1000000),.int g,.ref t])):=(Same.new ht).trans (Same.new hq)
    have rt5:Rep K (upd (upd H4 t (.tup [.str "all"])) q (.lst [.int 1000000,.int (-1000000),.int g,.ref t])) (.ref t) (.tuple [.str "all"]):=.tup (SqT.of (Same.new hq _ _ a02)) (.cons (.str _) .nil)
    refine ⟨p,dc,q,_,rfl,D4.mono s5,SqL.of a02,by simp,by simp,fun y H6 hy D6 b6=>⟨(show 3≤sizeLine by decide),fun t7 ht7=>?_⟩⟩
    obtain ⟨e,re,be⟩:∃ e,Rep K H6 y e/\Bd (n+1) e:=by
     simp only [List.mem_cons,List.not_mem_nil,or_false] at hy
     have:Huge=Far+2:=rfl
     rcases hy with rfl|rfl|rfl|rfl
     ·exact ⟨_,.int _,ap4 (by omega) (by omega)⟩
     ·exact ⟨_,.int _,ap4 (by omega) (by omega)⟩
     ·exact ⟨_,.int _,ap4 (by omega) (by omega)⟩
     ·exact ⟨_,(D4.mono s5).rep b6 rt5,bd_all⟩
    have s7:Same H6 (upd H6 t7 (.tup [.str "same",.str z,y])):=Same.new ht7
    refine k _ (.tuple [.str "same",.str z,e]) _ (.tup (SqT.of a02) (.cons (.str _) (.cons (.str _) (.cons (re.same s7) .nil)))) (ad5 (by unfold Asc;decide +kernel) (by decide +kernel) (by simp) fun d m=>?_) (D6.mono s7) (((((b2.trans b3).trans b4).trans s5.but).trans b6).trans s7.but)
    simp at m
    rcases m with rfl|rfl
    ·exact bd_str (asc_nm nz) (by have:=nz.hi;omega)
    ·exact be
   refine ⟨_,rfl,rfl,_,rfl,ite2 (fun _=>?_) (fun _=>?_)⟩
   ·refine ⟨_,rfl,_,rfl,p,dc,rfl,D2,fun z H3 nz D3 b3=>⟨p,dc,z,rfl,D3,by have:=nz.hi;omega,asc_nm nz,fun o H4 ao lo D4 b4=>⟨(show 2≤sizeLine by decide),fun t ht=>?_⟩⟩⟩
    have:=nz.hi
    refine k _ (.tuple [.str "is",.str o]) _ (.tup (SqT.of a02) (.cons (.str _) (.cons (.str _) .nil))) (ad5 (by unfold Asc;decide +kernel) (by decide +kernel) (by simp) fun d m=>?_) (D4.new ht) (((b2.trans b3).trans b4).trans (But.new ht))
    simp at m
    subst m
    exact bd_str ao (by omega)
   refine ⟨_,rfl,rfl,_,rfl,ite2 (fun _=>?_) (fun _=>?_)⟩
   ·refine ⟨_,rfl,_,rfl,(show 3≤sizeLine by decide),fun t ht=>?_⟩
    have s4:Same H2 (upd H2 t (.tup [.str "and",.ref a,.ref a])):=Same.new ht
    refine k _ (.tuple [.str "and",.tuple (.str f::r),.tuple (.str f::r)]) _ (.tup (SqT.of a02) (.cons (.str _) (.cons (rd3.same s4) (.cons (rd3.same s4) .nil)))) (ad5 (by unfold Asc;decide +kernel) (by decide +kernel) (by simp) fun d m=>?_) (D2.mono s4) (b2.trans s4.but)
    simp at m
    subst m
    exact bd0
   refine ⟨_,rfl,rfl,_,rfl,ite2 (fun _=>?_) (fun _=>?_)⟩
   ·refine ⟨_,rfl,(show 2≤sizeLine by decide),fun t ht=>?_⟩
    have s4:Same H2 (upd H2 t (.tup [.str "not",.ref a])):=Same.new ht
    refine k _ (.tuple [.str "not",.tuple (.str f::r)]) _ (.tup (SqT.of a02) (.cons (.str _) (.cons (rd3.same s4) .nil))) (ad5 (by unfold Asc;decide +kernel) (by decide +kernel) (by simp) fun d m=>?_) (D2.mono s4) (b2.trans s4.but)
    simp at m
    subst m
    exact bd0
   refine ⟨_,rfl,rfl,_,rfl,ite2 (fun _=>?_) (fun _=>?_)⟩
   ·refine ⟨_,rfl,_,rfl,(show 1≤sizeLine by decide),fun t ht=>⟨(show 3≤sizeLine by decide),fun q hq=>?_⟩⟩
    have s4:Same H2 (upd (upd H2 t (.tup [.str "all"])) q (.lst [.str "all",.int 1,.ref t])):=(Same.new ht).trans (Same.new hq)
    have rt4:Rep K (upd (upd H2 t (.tup [.str "all"])) q (.lst [.str "all",.int 1,.ref t])) (.ref t) (.tuple [.str "all"]):=.tup (SqT.of (Same.new hq _ _ a02)) (.cons (.str _) .nil)
    refine ⟨p,dc,q,_,rfl,D2.mono s4,SqL.of a02,by simp,by simp,fun y H5 hy D5 b5=>⟨(show 3≤sizeLine by decide),fun t6 ht6=>?_⟩⟩
    obtain ⟨e,re,be⟩:∃ e,Rep K H5 y e/\Bd (n+1) e:=by
     simp only [List.mem_cons,List.not_mem_nil,or_false] at hy
     rcases hy with rfl|rfl|rfl
     ·exact ⟨_,.str _,bd_str (by unfold Asc;decide +kernel) (by decide +kernel)⟩
     ·exact ⟨_,.int _,ap4 (by omega) (by omega)⟩
     ·exact ⟨_,(D2.mono s4).rep b5 rt4,bd_all⟩
    have s6:Same H5 (upd H5 t6 (.tup [.str "or",.ref a,y])):=Same.new ht6
    refine k _ (.tuple [.str "or",.tuple (.str f::r),e]) _ (.tup (SqT.of a02) (.cons (.str _) (.cons (((D2.mono s4).rep b5 (rd3.same s4)).same s6) (.cons (re.same s6) .nil)))) (ad5 (by unfold Asc;decide +kernel) (by decide +kernel) (by simp) fun d m=>?_) (D5.mono s6) (((b2.trans s4.but).trans b5).trans s6.but)
    simp at m
    rcases m with rfl|rfl
    ·exact bd0
    ·exact be
   exact ⟨_,rfl,k _ _ H2 rd3 (bd0.mono (by omega)) D2 b2⟩
 induction n with
 |zero=>exact main 0 (fun n e=>by omega)
 |succ n ih=>exact main (n+1) (fun n' e=>by cases e;exact ih)
end
section
variable {P:Program} {w:World} {K:PySem.W.Frag} {mg:Str->Option Value} {base:Heap}
def spTe (K:Frag):Sp:=fun vs H Q _=>∃ (p dc q q':Addr) (ys ys':List Str),vs=[.ref p,.ref q,.ref q']/\Dr H p dc/\SqL K H q (ys.map V.str)/\SqL K H q' (ys'.map V.str)/\ys≠[]/\ys'≠[]/\ys.length≤100/\ys'.length≤100/\(∀ y∈ys,Nm y)/\(∀ y∈ys',Nm y)/\
 ∀ (x:V) (d:PyData) (H':Hp),Rep K H' x d->Tr 5 d->ad4 d=true->Dr H' p dc->But p H H'->Q x H'
abbrev NTe:List Str:=["_law_d","_law_names","_law_kinds","_law_test_here"]
theorem scTe:a77 NTe ["_law_d","_law_names","_law_kinds"] (a03 (top 54)):=⟨rfl,rfl,rfl,by decide +kernel,rfl,by decide +kernel,by decide +kernel⟩
theorem ok_te {f fP fO fN fL fT fA:Addr} {fd fdP fdO fdN fdL fdT fdA:FuncData} (F:Fun K "_law_test" "_law_test" (top 54) f fd) (T:Txt K mg) (hsum:mg "sum" = none) (DP:Def K mg "_law_pick" (top 35) ["_law_d","_law_many"] fP fdP) (DO:Def K mg "_law_of" (top 36) ["_law_d","_law_things"] fO fdO) (DN:Def K mg "_law_number" (top 49) ["_law_d"] fN fdN)
 (DL:Def K mg "_law_leaf" (top 50) ["_law_d","_law_names","_law_kinds"] fL fdL) (DT:Def K mg "_law_tree" (top 51) ["_law_d","_law_deep_here","_law_names","_law_kinds"] fT fdT) (DA:Def K mg "_law_parts" (top 52) ["_law_test_here"] fA fdA):FnOk P w K mg base CX0 10 f fd ["_law_d","_law_names","_law_kinds"] (spTe K):=by
 have GP:FnOk P w K mg base CX0 1 fP fdP ["_law_d","_law_many"] ac9:=ab5 DP.F T
 have GL:FnOk P w K mg base CX0 4 fL fdL ["_law_d","_law_names","_law_kinds"] (spLe K):=ok_le DL.F T DP DO DN
 have GT:FnOk P w K mg base CX0 9 fT fdT ["_law_d","_law_deep_here","_law_names","_law_kinds"] (spTr K 5):=ok_tr DT T DP DO DN DL 4
 have GA:FnOk P w K mg base CX0 5 fA fdA ["_law_test_here"] (spPa K aa1 5):=ok_pa DA hsum 5
 refine F.ok scTe (fun vs H Q E h=>?_) (fun cdv A outer s H vs Q E hr h=>?_)
 ·obtain ⟨p,dc,q,q',ys,ys',rfl,_⟩:=h
  rfl
 ·obtain ⟨p,dc,q,q',ys,ys',rfl,D,hq,hq',ne,ne',l,l',nm,nm',k⟩:=h
  have hr1:Room 1 _:=hr.mono (by decide)
  have hr4:Room 4 _:=hr.mono (by decide)
  have hr5:Room 5 _:=hr.mono (by decide)
  refine ⟨_,(a05 (a79 (i:=3) scTe.nd rfl (Or.inl rfl) (a07 GT hr rfl DT.mg DT.F.kp DT.b .nil a74 (a00 (pv 0) (a00 (a81 aa6 a04 (a07 GP hr1 rfl DP.mg DP.F.kp DP.b .nil a74 (a00 (pv 0) (a00 a04 a01)))) (a00 (pv 1) (a00 (pv 2) a01))))))
   (a06 (a69 (ad9 (a67 op_lt (a07 GA hr5 rfl DA.mg DA.F.kp DA.b .nil a74 (a00 (pv 3) a01)) a04 (a72 _)) (pv 3) (a96 (a00 a65 (a00 (a07 GL hr4 rfl DL.mg DL.F.kp DL.b .nil a74 (a00 (pv 0) (a00 (pv 1) (a00 (pv 2) a01)))) a01))))))),?_⟩
  refine ⟨_,rfl,_,rfl,p,dc,_,rfl,D,by decide,by decide,fun r H1 r0 r1 D1 b1=>⟨_,_,rfl,rfl,_,rfl,_,rfl,?_⟩⟩
  refine ⟨p,dc,q,q',ys,ys',1+r,rfl,by omega,D1,D.seq b1 hq,D.seq b1 hq',ne,ne',l,l',nm,nm',fun x d H2 rx tx D2 b2=>?_⟩
  have de:a93 d≤5:=Nat.le_trans (deep_dep tx.td tx.sh) tx.dp
  refine ⟨_,rfl,x,d,rfl,rx,tx.td,tx.sh,de,by decide,fun H3 s3=>⟨_,_,rfl,rfl,_,rfl,ite2 (fun h=>?_) (fun h=>?_)⟩⟩
  ·have h:aa1 d≤15:=by simp at h;omega
   exact ⟨_,rfl,k x d H3 (rx.same s3) tx (by unfold ad4;rw [tx.sh,decide_eq_true de,decide_eq_true h];rfl) (D2.mono s3) ((b1.trans b2).trans s3.but)⟩
  ·have b3:=(b1.trans b2).trans (s3.but (p:=p))
   refine ⟨_,rfl,_,rfl,_,rfl,p,dc,q,q',ys,ys',rfl,D2.mono s3,D.seq b3 hq,D.seq b3 hq',ne,ne',l,l',nm,nm',fun y f r H4 ry lf D4 b4=>⟨(show 2≤sizeLine by decide),fun t ht=>?_⟩⟩
   have t1:Tr 2 (.tuple [.str "not",.tuple (.str f::r)]):=lf.tr.one
   refine k _ _ _ (.tup (SqT.of a02) (.cons (.str _) (.cons (ry.same (Same.new ht)) .nil))) (t1.mono (by decide)) ?_ (D4.new ht) ((b3.trans b4).trans (But.new ht))
   have e1:a93 (.tuple [.str "not",.tuple (.str f::r)])=2:=by
    show (if (arity "not").isSome=true then 1+max (if (arity f).isSome=true then 1+ac4 r else 1) 0 else 1)=2
    rw [lf.ar,show arity "not" = some 1 from by decide +kernel];rfl
   have e2:aa1 (.tuple [.str "not",.tuple (.str f::r)])=2:=by
    show (if (arity "not").isSome=true then 1+((if (arity f).isSome=true then 1+ad7 r else 1)+0) else 1)=2
    rw [lf.ar,show arity "not" = some 1 from by decide +kernel];rfl
   unfold ad4
   rw [t1.sh,e1,e2]
   rfl
end
def badV:List Fld->List Int->Option Nat
 |[],[]=>none
 |[],_::_=>some 0
 |_::_,[]=>some 0
 |f::fs,z::zs=>if f.2.1≤z/\z≤f.2.2 then (badV fs zs).map (·+1) else some 0
def ag6 (fs:List Fld) (zs:List Int) (i:Nat):Prop:=badV fs zs=(badV (fs.drop i) (zs.drop i)).map (·+i)
theorem bad_zero (fs:List Fld) (zs:List Int):ag6 fs zs 0:=by
 unfold ag6
 rw [List.drop_zero,List.drop_zero]
 cases badV fs zs <;> rfl
theorem bad_at {fs:List Fld} {zs:List Int} {i:Nat} {f:Fld} {z:Int} (hf:fs[i]?=some f) (hz:zs[i]?=some z):badV (fs.drop i) (zs.drop i)=if f.2.1≤z/\z≤f.2.2 then (badV (fs.drop (i+1)) (zs.drop (i+1))).map (·+1) else some 0:=by
 obtain ⟨h1,e1⟩:=List.getElem?_eq_some_iff.mp hf
 obtain ⟨h2,e2⟩:=List.getElem?_eq_some_iff.mp hz
 rw [List.drop_eq_getElem_cons h1,List.drop_eq_getElem_cons h2,e1,e2]
 rfl
theorem bad_ok {fs:List Fld} {zs:List Int} {i:Nat} {f:Fld} {z:Int} (b:ag6 fs zs i) (hf:fs[i]?=some f) (hz:zs[i]?=some z) (h:f.2.1≤z/\z≤f.2.2):ag6 fs zs (i+1):=by
 unfold ag6 at b ⊢
 rw [b,bad_at hf hz,if_pos h]
 cases badV (fs.drop (i+1)) (zs.drop (i+1)) with
 |none=>rfl
 |some k=>simp;omega
theorem bad_no {fs:List Fld} {zs:List Int} {i:Nat} {f:Fld} {z:Int} (b:ag6 fs zs i) (hf:fs[i]?=some f) (hz:zs[i]?=some z) (h:¬ (f.2.1≤z/\z≤f.2.2)):badV fs zs=some i:=by
 unfold ag6 at b
 rw [b,bad_at hf hz,if_neg h]
 simp
theorem bad_end {fs:List Fld} {zs:List Int} (b:ag6 fs zs (min fs.length zs.length)):badV fs zs=if fs.length=zs.length then none else some (min fs.length zs.length):=by
 unfold ag6 at b
 rw [b]
 by_cases h:fs.length=zs.length
 ·rw [if_pos h,h,Nat.min_self,List.drop_of_length_le (by omega),List.drop_of_length_le (by omega)]
  rfl
 ·rw [if_neg h]
  by_cases l:fs.length≤zs.length
  ·have h1:min fs.length zs.length=fs.length:=by omega
   rw [h1,List.drop_of_length_le (Nat.le_refl _)]
   cases e:zs.drop fs.length with
   |nil=>have:=congrArg List.length e;rw [List.length_drop] at this;simp at this;omega
   |cons x r=>simp [badV]
  ·have h1:min fs.length zs.length=zs.length:=by omega
   rw [h1,List.drop_of_length_le (l:=zs) (Nat.le_refl _)]
   cases e:fs.drop zs.length with
   |nil=>have:=congrArg List.length e;rw [List.length_drop] at this;simp at this;omega
   |cons x r=>simp [badV]
theorem bad_le {fs:List Fld} {zs:List Int} {n:Nat} (h:badV fs zs=some n):n≤fs.length/\n≤zs.length:=by
 induction fs generalizing zs n with
 | nil=>
   cases zs with
   |nil=>cases h
   |cons z zs=>simp [badV] at h;omega
 | cons f fs ih=>
   cases zs with
   |nil=>simp [badV] at h;omega
   | cons z zs=>
     simp only [badV] at h
     split at h
     ·cases e:badV fs zs with
      |none=>rw [e] at h;cases h
      | some k=>
        rw [e] at h
        have:=ih e
        simp at h
        simp only [List.length_cons]
        omega
     ·simp at h;omega
def bvW (n:Nat):Str:=("badvalue " : Str)++(toString (n:Int):Str)
def ag4 (fs:List Fld) (zs:List Int):Str:=match badV fs zs with
 |none=>""
 |some n=>bvW n
theorem aj0 {m:Nat} (hm:m≤100):(Str.ofString (toString (m:Int))).length≤8/\(m:Int).natAbs.log2<1920:=by
 constructor
 ·have:=int_text_length_le10 (a:=(m:Int)) (k:=6) (by decide) (by omega)
  have e:(Str.ofString (toString (m:Int))).length=(toString (m:Int)).length:=ofString_length _
  omega
 ·by_cases h0:(m:Int).natAbs=0
  ·rw [h0];decide
  ·exact Nat.lt_trans ((Nat.log2_lt h0).mpr (show (m:Int).natAbs<2 ^ 20 by omega)) (by decide)
section
variable {P:Program} {w:World} {K:PySem.W.Frag} {mg:Str->Option Value} {base:Heap}
def spVal (K:PySem.W.Frag):Sp:=fun vs H Q _=>∃ (p dc:Addr) (x:V) (f:Fld),vs=[.ref p,x]/\Dr H p dc/\ad6 H x f/\FldOk f/\∀ (z:Int) (H':Hp),Dr H' p dc->But p H H'->Q (.int z) H'
theorem scVal:a77 ["_law_d","_law_field","_law_title","_law_low","_law_high"] ["_law_d","_law_field"] (a03 (top 43)):=⟨rfl,rfl,rfl,by decide +kernel,rfl,by decide +kernel,by decide +kernel⟩
theorem ok_val {f fP fO:Addr} {fd fdP fdO:FuncData} (F:Fun K "_law_value" "_law_value" (top 43) f fd) (T:Txt K mg) (DP:Def K mg "_law_pick" (top 35) ["_law_d","_law_many"] fP fdP) (DO:Def K mg "_law_of" (top 36) ["_law_d","_law_things"] fO fdO) :
 FnOk P w K mg base CX0 3 f fd ["_law_d","_law_field"] (spVal K):=by
 have GP:FnOk P w K mg base CX0 1 fP fdP ["_law_d","_law_many"] ac9:=ab5 DP.F T
 have GO:FnOk P w K mg base CX0 2 fO fdO ["_law_d","_law_things"] (spOf K):=aq8 DO.F T DP
 refine F.ok scVal (fun vs H Q E h=>?_) (fun cdv A outer s H vs Q E hr h=>?_)
 ·obtain ⟨p,dc,x,f,rfl,_⟩:=h
  rfl
 ·obtain ⟨p,dc,x,fl,rfl,D,⟨b,rfl,hb⟩,fo,k⟩:=h
  have hr1:Room 1 _:=hr.mono (by decide)
  refine ⟨_,(a05 (ps_asg (pv 1) (al4 rfl (a91 (a82 (i:=2) scVal.nd rfl (Or.inl rfl)) (a91 (a82 (i:=3) scVal.nd rfl (Or.inl rfl)) (a91 (a82 (i:=4) scVal.nd rfl (Or.inl rfl)) ag7)))))
   (a06 (a69 (a07 GO hr rfl DO.mg DO.F.kp DO.b .nil a74 (a00 (pv 0) (a00 (a97 (a00 (pv 3) (a00 (pv 4) (a00 (a81 aa6 (pv 3) (a07 GP hr1 rfl DP.mg DP.F.kp DP.b .nil a74 (a00 (pv 0) (a00 (a81 aa6 (a81 ae0 (pv 4) (pv 3)) a04) a01)))) a01)))) a01)))))),?_⟩
  have f1:=fo.lo
  have f2:=fo.le
  have f3:=fo.hi
  refine ⟨_,rfl,b,_,rfl,SqT.of hb,rfl,_,_,rfl,_,_,rfl,_,_,rfl,rfl,?_⟩
  refine ⟨_,rfl,_,rfl,_,rfl,_,rfl,_,rfl,_,rfl,_,rfl,_,_,rfl,rfl,_,_,rfl,rfl,p,dc,_,rfl,D,by omega,by omega,fun r H1 r0 r1 D1 t1=>⟨_,_,rfl,rfl,(show 3≤sizeLine by decide),fun q hq=>?_⟩⟩
  refine ⟨p,dc,q,_,rfl,D1.new hq,SqL.of a02,by simp,by simp,fun y H2 hy D2 t2=>?_⟩
  obtain ⟨z,rfl⟩:∃ z:Int,y=.int z:=by
   simp only [List.mem_cons,List.not_mem_nil,or_false] at hy
   rcases hy with rfl|rfl|rfl
   all_goals exact ⟨_,rfl⟩
  exact k z H2 D2 ((t1.trans (But.new hq)).trans t2)
end
theorem _root_.L2.EvR.ixTu {K:PySem.W.Frag} {H:Hp} {a:Addr} {xs:List V} {i:Int} {v:V} (h:SqT K H a xs) (e:atI xs i=some v):EvR (rIx K) (.ref a) (.int i) H v:=fun Q q=>.inr (.inl ⟨a,xs,i,v,rfl,rfl,h,e,q⟩)
section
variable {P:Program} {w:World} {K:PySem.W.Frag} {mg:Str->Option Value} {base:Heap}
def spVW (K:PySem.W.Frag):Sp:=fun vs H Q _=>∃ (a b:Addr) (xs:List V) (fs:List Fld) (zs:List Int),vs=[.ref a,.ref b]/\H a=some (.tup xs)/\Paired (ad6 H) xs fs/\H b=some (.tup (zs.map V.int))/\fs.length≤60/\zs.length≤70/\Q (.str (ag4 fs zs)) H
theorem scVW:a77 ["_law_fields_here","_law_values","_law_least","_law_at"] ["_law_fields_here","_law_values"] (a03 (top 48)):=⟨rfl,rfl,rfl,by decide +kernel,rfl,by decide +kernel,by decide +kernel⟩
theorem ok_vw {f:Addr} {fd:FuncData} (F:Fun K "_law_values_word" "_law_values_word" (top 48) f fd) (T:Txt K mg):FnOk P w K mg base CX0 1 f fd ["_law_fields_here","_law_values"] (spVW K):=by
 refine F.ok scVW (fun vs H Q E h=>?_) (fun cdv A outer s H vs Q E hr h=>?_)
 ·obtain ⟨a,b,xs,fs,zs,rfl,_⟩:=h
  rfl
 ·obtain ⟨a,b,xs,fs,zs,rfl,ha,pf,hb,fl,zl,k⟩:=h
  refine ⟨_,(a05 (a79 (i:=2) scVW.nd rfl (Or.inl rfl) (a08 (ai7 rfl) (by rfl) T.min bt_min (a00 (a08 a66 (by rfl) T.len a86 (a00 (pv 0) a01)) (a00 (a08 a66 (by rfl) T.len a86 (a00 (pv 1) a01)) a01))))
   (a05 (ae6 PassesOwn.never rfl (ab9 rfl T.range (a00 (pv 2) a01)) (a82 (i:=3) scVW.nd rfl (Or.inl rfl))
    (a06 (a84 (af6 (pt_chain af8 af8 (a80 (r:=rIx K) an5 (a80 (r:=rIx K) an5 (pv 0) (pv 3) (fun _ _=>rfl)) a04 (fun _ _=>rfl)) (a80 (r:=rIx K) an5 (pv 1) (pv 3) (fun _ _=>rfl)) (a80 (r:=rIx K) an5 (a80 (r:=rIx K) an5 (pv 0) (pv 3) (fun _ _=>rfl)) a04 (fun _ _=>rfl))))
     (a06 (a69 (a81 a98 a65 (ac0 ag8 (by rfl) T.str al5 (a00 (pv 3) a01))))) a73)))
   (a06 (a69 (ad9 (a67 a85 (a08 a66 (by rfl) T.len a86 (a00 (pv 0) a01)) (a08 a66 (by rfl) T.len a86 (a00 (pv 1) a01)) (a72 _)) a65 (a81 a98 a65 (ac0 ag8 (by rfl) T.str al5 (a00 (pv 2) a01)))))))),?_⟩
  have pl:=Paired.length pf
  have zl':(zs.map V.int).length=zs.length:=List.length_map ..
  have big:100≤sizeLine:=by decide
  have e9:("badvalue " : Str).length=9:=by decide +kernel
  have mn:min (xs.length:Int) ((zs.map V.int).length:Int)=((min fs.length zs.length:Nat):Int):=by rw [zl',pl];omega
  refine ⟨_,rfl,a,xs,rfl,.inr (SqT.of ha),_,rfl,b,_,rfl,.inr (SqT.of hb),?_⟩
  refine ⟨_,_,rfl,?_⟩
  have mn':(if ((zs.map V.int).length:Int)<(xs.length:Int) then ((zs.map V.int).length:Int) else (xs.length:Int))=((min fs.length zs.length:Nat):Int):=by
   rw [zl',pl]
   split <;> omega
  rw [mn']
  have ml:min fs.length zs.length≤60:=by omega
  refine ⟨_,rfl,_,rfl,by omega,by omega,ae2 (n:=((min fs.length zs.length:Nat):Int).toNat) (fun i σ' H'=>(∃ v,σ'=[some (.ref a),some (.ref b),some (.int ((min fs.length zs.length:Nat):Int)),v])/\H=H'/\ag6 fs zs i) ⟨⟨none,rfl⟩,rfl,bad_zero fs zs⟩ ?_ ?_⟩
  ·rintro i σ' H' hi ⟨⟨v,rfl⟩,rfl,bi⟩
   rw [Int.toNat_natCast] at hi
   have l1:i<fs.length:=by omega
   have l2:i<zs.length:=by omega
   have hf:fs[i]?=some fs[i]:=List.getElem?_eq_getElem l1
   have hz:zs[i]?=some zs[i]:=List.getElem?_eq_getElem l2
   have hx:xs[i]?=some xs[i]:=List.getElem?_eq_getElem (by omega)
   obtain ⟨f',hf',bb,ex,hbb⟩:=ac3 pf hx
   rw [hf] at hf'
   cases hf'
   have ax:atI xs (0+(i:Int))=some (.ref bb):=by rw [Int.zero_add,← ex];exact a09 hx
   have az:atI (zs.map V.int) (0+(i:Int))=some (.int zs[i]):=by rw [Int.zero_add];exact a09 (by rw [List.getElem?_map,hz];rfl)
   have q1:SqT K H bb [.str fs[i].1,.int fs[i].2.1,.int fs[i].2.2]:=SqT.of hbb
   dsimp only [af9]
   refine EvT.iff (EvT.not (EvT.test (EvE.chain (EvE.op (EvE.op (EvE.var rfl) (EvE.var rfl) (EvR.ixTu (SqT.of ha) ax)) EvE.con (EvR.ixTu q1 rfl)) (EvE.op (EvE.var rfl) (EvE.var rfl) (EvR.ixTu (SqT.of hb) az)) (EvE.op (EvE.op (EvE.var rfl) (EvE.var rfl) (EvR.ixTu (SqT.of ha) ax)) EvE.con (EvR.ixTu q1 rfl)) EvR.i0 EvR.i0))) ?_
   refine ite2 (fun h=>?_) (fun h=>?_)
   ·have nb:¬ (fs[i].2.1≤zs[i]/\zs[i]≤fs[i].2.2):=by
     intro z
     simp [z.1,z.2] at h
    have e:=bad_no bi hf hz nb
    have tx:=aj0 (m:=i) (by omega)
    refine ⟨_,rfl,_,rfl,(by rw [Int.zero_add];exact tx.2),_,_,rfl,rfl,?_,?_⟩
    ·rw [Int.zero_add,e9]
     have:=tx.1
     show 9+(Str.ofString (toString (i:Int))).length≤sizeLine
     omega
    ·have k2:=k
     unfold ag4 at k2
     rw [e] at k2
     rw [Int.zero_add]
     exact k2
   ·have yb:fs[i].2.1≤zs[i]/\zs[i]≤fs[i].2.2:=by
     simpa using h
    exact ⟨⟨_,rfl⟩,rfl,bad_ok bi hf hz yb⟩
  ·rintro σ' H' ⟨⟨v,rfl⟩,rfl,bi⟩
   rw [Int.toNat_natCast] at bi
   have e:=bad_end bi
   refine ⟨_,rfl,a,xs,rfl,.inr (SqT.of ha),_,rfl,b,_,rfl,.inr (SqT.of hb),rfl,_,rfl,ite2 (fun h=>?_) (fun h=>?_)⟩
   ·have he:fs.length=zs.length:=by
     simp at h
     omega
    have k2:=k
    unfold ag4 at k2
    rw [e,if_pos he] at k2
    exact k2
   ·have he:¬ fs.length=zs.length:=by
     intro z
     simp [pl,z] at h
    have tx:=aj0 (m:=min fs.length zs.length) (by omega)
    refine ⟨_,rfl,_,rfl,tx.2,_,_,rfl,rfl,?_,?_⟩
    ·rw [e9]
     have:=tx.1
     show 9+(Str.ofString (toString ((min fs.length zs.length:Nat):Int))).length≤sizeLine
     omega
    ·have k2:=k
     unfold ag4 at k2
     rw [e,if_neg he] at k2
     exact k2
end
theorem aj1:∀ (ws:List Int) (k:Nat),(ws.map V.int).eraseIdx k=(ws.eraseIdx k).map V.int
 |[],_=>by simp
 |w::ws,0=>by simp
 | w::ws,k+1=>by
   rw [List.map_cons,List.eraseIdx_cons_succ,List.eraseIdx_cons_succ,List.map_cons,aj1 ws k]
section
variable {P:Program} {w:World} {K:PySem.W.Frag} {mg:Str->Option Value} {base:Heap}
def spBVs (K:PySem.W.Frag):Sp:=fun vs H Q _=>∃ (p dc b:Addr) (v:V) (zs:List Int),vs=[.ref p,v,.ref b]/\Dr H p dc/\H b=some (.tup (zs.map V.int))/\zs.length≤60/\
 ∀ (b':Addr) (ws:List Int) (H':Hp),H' b'=some (.tup (ws.map V.int))->ws.length≤70->Dr H' p dc->But p H H'->H b'=none->Q (.ref b') H'
abbrev NBV:List Str:=["_law_d","_law_fields_here","_law_values","_law_some","_law_step","_law_at","_law_way"]
theorem scBVs:a77 NBV ["_law_d","_law_fields_here","_law_values"] (a03 (top 47)):=⟨rfl,rfl,rfl,by decide +kernel,rfl,by decide +kernel,by decide +kernel⟩
theorem ok_bvs {f fP fO fF:Addr} {fd fdP fdO fdF:FuncData} (F:Fun K "_law_bent_values" "_law_bent_values" (top 47) f fd) (T:Txt K mg) (DP:Def K mg "_law_pick" (top 35) ["_law_d","_law_many"] fP fdP) (DO:Def K mg "_law_of" (top 36) ["_law_d","_law_things"] fO fdO)
 (DF:Def K mg "_law_far" (top 37) ["_law_d"] fF fdF):FnOk P w K mg base CX0 3 f fd ["_law_d","_law_fields_here","_law_values"] (spBVs K):=by
 have GP:FnOk P w K mg base CX0 1 fP fdP ["_law_d","_law_many"] ac9:=ab5 DP.F T
 have GO:FnOk P w K mg base CX0 2 fO fdO ["_law_d","_law_things"] (spOf K):=aq8 DO.F T DP
 have GF:FnOk P w K mg base CX0 2 fF fdF ["_law_d"] spFar:=ok_far DF.F T DP
 refine F.ok scBVs (fun vs H Q E h=>?_) (fun cdv A outer s H vs Q E hr h=>?_)
 ·obtain ⟨p,dc,b,v,zs,rfl,_⟩:=h
  rfl
 ·obtain ⟨p,dc,b,v,zs,rfl,D,hb,zl,k⟩:=h
  have hr1:Room 1 _:=hr.mono (by decide)
  refine ⟨_,(a05 (a79 (i:=3) scBVs.nd rfl (Or.inl rfl) (ac0 al0 (by rfl) T.list ar8 (a00 (pv 2) a01)))
   (a05 (ae6 PassesOwn.never rfl (ab9 rfl T.range (a00 (a07 GP hr1 rfl DP.mg DP.F.kp DP.b .nil a74 (a00 (pv 0) (a00 a04 a01))) a01)) (a82 (i:=4) scBVs.nd rfl (Or.inl rfl))
    (a05 (a79 (i:=5) scBVs.nd rfl (Or.inl rfl) (a07 GP hr1 rfl DP.mg DP.F.kp DP.b .nil a74 (a00 (pv 0) (a00 (a81 aa6 (a08 a66 (by rfl) T.len a86 (a00 (pv 3) a01)) a04) a01))))
    (a05 (a79 (i:=6) scBVs.nd rfl (Or.inl rfl) (a07 GP hr1 rfl DP.mg DP.F.kp DP.b .nil a74 (a00 (pv 0) (a00 a04 a01))))
    (a06 (a84 (PW.pt (ap3 (a67 a85 (pv 5) (a08 a66 (by rfl) T.len a86 (a00 (pv 3) a01)) (a72 _)) (ai1 (a67 a85 (pv 6) a04 (a72 _)))))
     (a06 (ab3 (pe_bm PySem.F.plainAttrs_list PySem.F.slot_list_insert PySem.F.type_list_insert mt_insert (pv 3) (a00 (pv 5) (a00 (a07 GO hr rfl DO.mg DO.F.kp DO.b .nil a74 (a00 (pv 0) (a00 (a97 (a00 a04 (a00 a04 (a00 (a07 GF hr rfl DF.mg DF.F.kp DF.b .nil a74 (a00 (pv 0) a01)) a01)))) a01))) a01)))))
     (a06 (a84 (a67 a85 (pv 6) a04 (a72 _))
      (a06 (ab3 (pe_bm PySem.F.plainAttrs_list PySem.F.slot_list_pop PySem.F.type_list_pop mt_popAt (pv 3) (a00 (pv 5) a01))))
      (a06 (ps_asg (a81 aa6 (a80 ac6 (pv 3) (pv 5) (fun _ _=>rfl)) (a07 GO hr rfl DO.mg DO.F.kp DO.b .nil a74 (a00 (pv 0) (a00 (a97 (a00 a04 (a00 (aq9 ai8 a04) (a00 a04 (a00 (aq9 ai8 a04) (a00 (a07 GF hr rfl DF.mg DF.F.kp DF.b .nil a74 (a00 (pv 0) a01)) a01)))))) a01)))) (pg_sub (pv 3) (pv 5) set_list))))))))))
   (a06 (a69 (ac0 ad0 (by rfl) T.tuple ac2 (a00 (pv 3) a01)))))),?_⟩
  refine ⟨_,rfl,b,_,rfl,.inr (SqT.of hb),fun q hq=>?_⟩
  have D0:=D.new (o:=.lst (zs.map V.int)) hq
  have npq:q≠p:=(D.neN hq).symm
  have nqd:q≠dc:=by
   obtain ⟨ws,e⟩:=D.cell
   exact (a70 e hq).symm
  refine ⟨_,rfl,p,dc,_,rfl,D0,by decide,by decide,fun r H1 r0 r1 D1 t1=>?_⟩
  have b1:But p H H1:=(But.new hq).trans t1
  refine ⟨_,rfl,by omega,by omega,ae2 (n:=r.toNat) (fun i σ H2=>∃ (ws:List Int) (u1 u2 u3:Option V),σ=[some (.ref p),some v,some (.ref b),some (.ref q),u1,u2,u3]/\H2 q=some (.lst (ws.map V.int))/\ws.length≤60+i/\Dr H2 p dc/\But p H H2)
   ⟨zs,none,none,none,rfl,t1 _ _ a02 npq,by omega,D1,b1⟩ ?_ ?_⟩
  ·rintro i σ H2 hi ⟨ws,u1,u2,u3,rfl,e2,wl,D2,b2⟩
   have wl':(ws.map V.int).length=ws.length:=List.length_map ..
   have put:∀ {H5:Hp} {ws':List Int} {v1 v2 v3:Option V},H5 q=some (.lst (ws.map V.int))->ws'.length≤60+(i+1)->Dr H5 p dc->But p H H5->
    ∃ (ws'':List Int) (u1 u2 u3:Option V),[some (V.ref p),some v,some (V.ref b),some (V.ref q),v1,v2,v3]=[some (.ref p),some v,some (.ref b),some (.ref q),u1,u2,u3]/\upd H5 q (.lst (ws'.map V.int)) q=some (.lst (ws''.map V.int))/\ws''.length≤60+(i+1)/\Dr (upd H5 q (.lst (ws'.map V.int))) p dc/\But p H (upd H5 q (.lst (ws'.map V.int))):=
    fun {H5 ws' v1 v2 v3} e5 l5 D5 b5=>⟨ws',v1,v2,v3,rfl,a02,l5,D5.put npq nqd,fun b o e hb=>by rw [a68 (a70 e hq)];exact b5 b o e hb⟩
   have r2:i≤1:=by omega
   refine ⟨_,rfl,_,rfl,q,_,rfl,.inl (SqL.of e2),_,_,rfl,rfl,p,dc,_,rfl,D2,by omega,by omega,fun at' H3 a0 a1 D3 t3=>?_⟩
   refine ⟨_,rfl,p,dc,_,rfl,D3,by decide,by decide,fun wy H4 w0 w1 D4 t4=>?_⟩
   obtain ⟨at',rfl⟩:=Int.eq_ofNat_of_zero_le a0
   have t24:But p H2 H4:=t3.trans t4
   have e4:H4 q=some (.lst (ws.map V.int)):=t24 _ _ e2 npq
   have b4:But p H H4:=b2.trans t24
   have atl:at'≤ws.length:=by omega
   have way1:∀ v1 v2 v3:Option V,∀ (x:V) (H5:Hp),(∃ z:Int,x=.int z)->Dr H5 p dc->But p H4 H5->∃ (ws'':List Int) (u1 u2 u3:Option V),[some (V.ref p),some v,some (V.ref b),some (V.ref q),v1,v2,v3]=[some (.ref p),some v,some (.ref b),some (.ref q),u1,u2,u3]/\upd H5 q (.lst ((ws.map V.int).take at'++x::(ws.map V.int).drop at')) q=some (.lst (ws''.map V.int))/\ws''.length≤60+(i+1)/\Dr (upd H5 q (.lst ((ws.map V.int).take at'++x::(ws.map V.int).drop at'))) p dc/\But p H (upd H5 q (.lst ((ws.map V.int).take at'++x::(ws.map V.int).drop at'))):=by
    rintro v1 v2 v3 x H5 ⟨z,rfl⟩ D5 t5
    have e:(ws.map V.int).take at'++V.int z::(ws.map V.int).drop at'=(ws.take at'++z::ws.drop at').map V.int:=by rw [List.map_append,List.map_cons,List.map_take,List.map_drop]
    rw [e]
    exact put (t5 _ _ e4 npq) (by rw [List.length_append,List.length_cons,List.length_take,List.length_drop];omega) D5 (b4.trans t5)
   have ins:∀ (D':Ends) (v1 v2:Option V),True:=fun _ _ _=>trivial
   have three:∀ {x:V} {z:Int},x∈[V.int 0,V.int 1,V.int z]->∃ z:Int,x=.int z:=fun {x z} h=>by
    simp only [List.mem_cons,List.not_mem_nil,or_false] at h
    rcases h with rfl|rfl|rfl
    all_goals exact ⟨_,rfl⟩
   refine ⟨_,rfl,_,rfl,q,_,rfl,.inl (SqL.of e4),rfl,_,rfl,?_⟩
   by_cases hal:at'=ws.length
   ·refine ifT (by rw [wl'];simp [hal]) (ifT rfl ?_)
    refine ⟨_,rfl,.inl ⟨rfl,_,SqL.of e4⟩,_,rfl,_,rfl,_,rfl,p,dc,rfl,D4,fun fz H5 f0 f1 D5 t5=>⟨(show 3≤sizeLine by decide),fun l hl=>?_⟩⟩
    refine ⟨p,dc,l,_,rfl,D5.new hl,SqL.of a02,by simp,by simp,fun x H6 hx D6 t6=>?_⟩
    have t46:But p H4 H6:=(t5.trans (But.new hl)).trans t6
    exact ⟨q,_,at',x,rfl,rfl,t46 _ _ e4 npq,by rw [wl'];exact atl,by rw [wl'];omega,way1 _ _ _ x H6 (three hx) D6 t46⟩
   ·refine ifF (by rw [wl'];simp;omega) ?_
    refine ⟨_,rfl,rfl,_,rfl,?_⟩
    have atl':at'<ws.length:=by omega
    by_cases hw0:wy=0
    ·subst hw0
     refine ifT rfl ?_
     refine ⟨_,rfl,.inl ⟨rfl,_,SqL.of e4⟩,_,rfl,_,rfl,_,rfl,p,dc,rfl,D4,fun fz H5 f0 f1 D5 t5=>⟨(show 3≤sizeLine by decide),fun l hl=>?_⟩⟩
     refine ⟨p,dc,l,_,rfl,D5.new hl,SqL.of a02,by simp,by simp,fun x H6 hx D6 t6=>?_⟩
     have t46:But p H4 H6:=(t5.trans (But.new hl)).trans t6
     exact ⟨q,_,at',x,rfl,rfl,t46 _ _ e4 npq,by rw [wl'];exact atl,by rw [wl'];omega,way1 _ _ _ x H6 (three hx) D6 t46⟩
    ·refine ifF (by simpa using hw0) ?_
     refine ⟨_,rfl,rfl,_,rfl,?_⟩
     by_cases hw1:wy=1
     ·subst hw1
      refine ifT rfl ?_
      refine ⟨_,rfl,.inl ⟨rfl,_,SqL.of e4⟩,_,rfl,q,_,_,at',.int ws[at'],rfl,rfl,e4,by omega,by omega,?_,by rw [List.getElem?_map,List.getElem?_eq_getElem atl'];rfl,?_⟩
      ·unfold seqIndex?
       rw [wl']
       simp
       omega
      ·have e:(ws.map V.int).eraseIdx at'=(ws.eraseIdx at').map V.int:=aj1 ws at'
       rw [e]
       exact put e4 (by rw [List.length_eraseIdx];split <;> omega) D4 b4
     ·refine ifF (by simpa using hw1) ?_
      refine ⟨_,rfl,_,rfl,q,_,_,.int ws[at'],rfl,rfl,SqL.of e4,a09 (by rw [List.getElem?_map,List.getElem?_eq_getElem atl'];rfl),?_⟩
      refine ⟨_,rfl,_,rfl,_,rfl,_,rfl,p,dc,rfl,D4,fun fz H5 f0 f1 D5 t5=>⟨(show 5≤sizeLine by decide),fun l hl=>?_⟩⟩
      refine ⟨p,dc,l,_,rfl,D5.new hl,SqL.of a02,by simp,by simp,fun x H6 hx D6 t6=>?_⟩
      obtain ⟨z,rfl⟩:∃ z:Int,x=.int z:=by
       simp only [List.mem_cons,List.not_mem_nil,or_false] at hx
       rcases hx with rfl|rfl|rfl|rfl|rfl
       all_goals exact ⟨_,rfl⟩
      have t46:But p H4 H6:=(t5.trans (But.new hl)).trans t6
      have e:(ws.map V.int).set at' (.int (ws[at']+z))=(ws.set at' (ws[at']+z)).map V.int:=by rw [List.map_set]
      refine ⟨_,_,rfl,rfl,_,rfl,_,rfl,q,_,_,at',rfl,rfl,t46 _ _ e4 npq,?_,?_⟩
      ·rw [wl']
       unfold ixN
       rw [if_pos (by omega),if_pos (by omega)]
       simp
      ·rw [e]
       exact put (t46 _ _ e4 npq) (by rw [List.length_set];omega) D6 (b4.trans t46)
  ·rintro σ H2 ⟨ws,u1,u2,u3,rfl,e2,wl,D2,b2⟩
   refine ⟨_,rfl,q,_,rfl,.inl ⟨SqL.of e2,fun t ht=>?_⟩⟩
   have r2:r.toNat≤2:=by omega
   have hn:H t=none:=by
    cases e:H t with
    |none=>rfl
    | some o=>
      by_cases tp:t=p
      ·subst tp
       obtain ⟨kvs,e3⟩:=D2.dk
       rw [ht] at e3;cases e3
      ·have:=b2 t o e tp
       rw [ht] at this;cases this
   exact k t ws _ a02 (by omega) (D2.new ht) (b2.trans (But.new ht)) hn
end
theorem upd_twice {H:Hp} {a:Addr} {x y:HO}:upd (upd H a x) a y=upd H a y:=funext fun b=>by
 by_cases h:b=a
 ·subst h;rw [a02,a02]
 ·rw [a68 h,a68 h,a68 h]
section
variable {P:Program} {w:World} {K:PySem.W.Frag} {mg:Str->Option Value} {base:Heap}
abbrev sNeed:Stmt:=inClass (top 18) 4
abbrev NNd:List Str:=["self","values","at","name","low","high","value"]
theorem scNd:a77 NNd ["self","values"] (a03 sNeed):=⟨rfl,rfl,rfl,by decide +kernel,rfl,by decide +kernel,by decide +kernel⟩
structure VCls (K:Frag) (mg:Str->Option Value) (C f:Addr) (fd:FuncData):Prop where
 b:Binds K fd ["self","at"] []
 mg:mg "BadValue" = some (.ref C)
 e:ECls2 K C
 i:findIn K (.ref C) "__init__" = some (some (.ref f))
 n:isFn K (.ref f)=true
def spNeed (C cV:Addr):Sp:=fun vs H Q E=>∃ (o a b:Addr) (n:Str) (fs:List Fld) (zs:List Int),vs=[.ref o,.ref b]/\ab8 C H o n a fs/\H b=some (.tup (zs.map V.int))/\fs.length≤60/\zs.length≤70/\
 (badV fs zs=none->∀ H',Same H H'->Q .non H')/\∀ i:Nat,badV fs zs=some i->∀ H1 da H',Same H H1->an0 H1 (bvF i) da H'->E (.ref cV) (some da) H'
theorem ok_need {C f cV fV:Addr} {fd fdV:FuncData} (F:Fun K "need" "Kind.need" sNeed f fd) (T:Txt K mg) (hen:mg "enumerate" = none) (hzp:mg "zip" = none) (KC:KCls K mg C) (WV:VCls K mg cV fV fdV) (GV:FnOk P w K mg base CX0 2 fV fdV ["self","at"] (spBV K)) :
 FnOk P w K mg base (CX1 P w) 5 f fd ["self","values"] (spNeed C cV):=by
 refine F.ok1 scNd (fun vs H Q E h=>?_) (fun cdv A outer s H vs Q E hr h=>?_)
 ·obtain ⟨o,a,b,n,fs,zs,rfl,_⟩:=h
  rfl
 ·obtain ⟨o,a,b,n,fs,zs,rfl,⟨⟨dx,ho⟩,xs,ha,pf⟩,hb,fl,zl,k,kx⟩:=h
  have hr3:Room 3 (A.deeper (PyProof.Rows.envOfC "Kind.need" (a03 sNeed) s.heap.objs.size f cdv)):=hr.mono (by decide)
  refine ⟨_,(a05 (ae6 PassesOwn.leaving rfl (pi_enumZ rfl hen rfl hzp (a00 (pe_fld (pv 0) rfl) (a00 (pv 1) a01))) (al4 rfl (a91 (a82 (i:=2) scNd.nd rfl (Or.inl rfl)) (a91 (al4 rfl (a91 (al4 rfl (a91 (a82 (i:=3) scNd.nd rfl (Or.inl rfl)) (a91 (a82 (i:=4) scNd.nd rfl (Or.inl rfl)) (a91 (a82 (i:=5) scNd.nd rfl (Or.inl rfl)) ag7)))) (a91 (a82 (i:=6) scNd.nd rfl (Or.inl rfl)) ag7))) ag7)))
   (a06 (a84 (af6 (pt_chain af8 af8 (pv 4) (pv 6) (pv 5))) (a06 (ar9 (B:="ValueError") (newId:="ValueError.__new__") (W:=E)
    (as4 (E:=E0) PySem.F.excBase_ValueError WV.e.e.x WV.i WV.n GV hr3 (by rfl) WV.mg WV.b .nil a74 (a00 (pv 2) a01)) rfl rfl (fun pins σ H' s' e cls dd I x q=>xe1 I x q))) a73)))
   (a06 (a84 (a67 op_ne (a08 a66 (by rfl) T.len a86 (a00 (pv 1) a01)) (a08 a66 (by rfl) T.len a86 (a00 (pe_fld (pv 0) rfl) a01)) (a72 _)) (a06 (ar9 (B:="ValueError") (newId:="ValueError.__new__") (W:=E)
    (as4 (E:=E0) PySem.F.excBase_ValueError WV.e.e.x WV.i WV.n GV hr3 (by rfl) WV.mg WV.b .nil a74 (a00 (a08 (ai7 rfl) (by rfl) T.min bt_min (a00 (a08 a66 (by rfl) T.len a86 (a00 (pv 1) a01)) (a00 (a08 a66 (by rfl) T.len a86 (a00 (pe_fld (pv 0) rfl) a01)) a01))) a01)) rfl rfl (fun pins σ H' s' e cls dd I x q=>xe1 I x q))) a73))),?_⟩
  have pl:=Paired.length pf
  have zl':(zs.map V.int).length=zs.length:=List.length_map ..
  have raiseB:∀ {H1:Hp} {i:Nat},Same H H1->badV fs zs=some i->∀ e,H1 e=none->spBV K [.ref e,.int i] (upd H1 e (excO e cV none)) (fun v H2=>v=.non/\∃ (e':Addr) (C':Addr) (dd:Option Addr),V.ref e=.ref e'/\H2 e'=some (excO e' C' dd)/\H e'=none/\XCls K C' "ValueError" "ValueError.__new__"/\E (.ref C') dd (unt H2 e')) (fun _ _ _=>False):=by
   intro H1 i s1 hi e he
   have bl:=bad_le hi
   have tx:=aj0 (m:=i) (by omega)
   refine ⟨e,cV,i,rfl,WV.e,a02,tx.2,by have:=tx.1;omega,fun da hda=>⟨rfl,e,cV,some da,rfl,?_,ag2 s1 he,WV.e.e.x,?_⟩⟩
   ·have ne:e≠da:=fun q=>by subst q;rw [a02] at hda;cases hda
    rw [upd_twice,a68 ne,a02]
   ·rw [upd_twice]
    exact kx i hi H1 da _ s1 (thrown_of he hda)
  refine ⟨_,rfl,o,C,dx,_,_,rfl,ho,KC.cl,KC.nF,ai5 n a,_,rfl,a,b,rfl,⟨xs,SqT.of ha⟩,⟨_,SqT.of hb⟩,?_⟩
  refine for_enumZ (K:=K) (a1:=a) (a2:=b) (xs:=xs) (ys:=zs.map V.int) (fun i σ' H'=>(∃ u1 u2 u3 u4 u5,σ'=[some (.ref o),some (.ref b),u1,u2,u3,u4,u5])/\Same H H'/\ag6 fs zs i) ⟨⟨none,none,none,none,none,rfl⟩,Same.refl _,bad_zero fs zs⟩ (fun i σ' H' _ z=>⟨SqT.of (z.2.1 _ _ ha),SqT.of (z.2.1 _ _ hb)⟩) ?_ ?_
  ·rintro i x y σ' H1 q p hx hy ⟨⟨u1,u2,u3,u4,u5,rfl⟩,s1,bi⟩ hq hp
   obtain ⟨⟨m,lo,hi⟩,hfi,bb,rfl,hbb⟩:=ac3 pf hx
   rw [List.getElem?_map] at hy
   obtain ⟨z,hz,rfl⟩:=Option.map_eq_some_iff.mp hy
   have s2:Same H1 (upd (upd H1 q (.tup [.ref bb,.int z])) p (.tup [.int i,.ref q])):=(Same.new hq).trans (Same.new hp)
   have hq2:(upd (upd H1 q (.tup [.ref bb,.int z])) p (.tup [.int i,.ref q])) q=some (.tup [.ref bb,.int z]):=(Same.new hp) _ _ a02
   refine ⟨p,_,rfl,SqT.of a02,rfl,_,_,rfl,_,_,rfl,q,_,rfl,SqT.of hq2,rfl,_,_,rfl,bb,_,rfl,SqT.of (s2 _ _ (s1 _ _ hbb)),rfl,_,_,rfl,_,_,rfl,_,_,rfl,rfl,_,_,rfl,rfl,rfl,?_⟩
   dsimp only [af9]
   refine EvT.iff (EvT.not (EvT.test (EvE.chain (EvE.var rfl) (EvE.var rfl) (EvE.var rfl) EvR.i0 EvR.i0))) ?_
   refine ite2 (fun h=>?_) (fun h=>?_)
   ·have nb:¬ (lo≤z/\z≤hi):=by
     intro w
     simp [w.1,w.2] at h
    have e:=bad_no bi hfi hz nb
    exact ⟨_,rfl,fun e' he=>raiseB (s1.trans s2) e e' he⟩
   ·have yb:lo≤z/\z≤hi:=by simpa using h
    exact ⟨⟨_,_,_,_,_,rfl⟩,s1.trans s2,bad_ok bi hfi hz yb⟩
  ·rintro σ' H1 ⟨⟨u1,u2,u3,u4,u5,rfl⟩,s1,bi⟩
   rw [zl',pl] at bi
   have e:=bad_end bi
   refine ⟨_,rfl,b,_,rfl,.inr (SqT.of (s1 _ _ hb)),_,rfl,o,C,dx,_,_,rfl,s1 _ _ ho,KC.cl,KC.nF,ai5 n a,a,xs,rfl,.inr (SqT.of (s1 _ _ ha)),rfl,_,rfl,ite2 (fun h=>?_) (fun h=>?_)⟩
   ·have he:¬ fs.length=zs.length:=by
     intro w
     simp [pl,w] at h
    rw [if_neg he] at e
    refine ⟨_,rfl,b,_,rfl,.inr (SqT.of (s1 _ _ hb)),_,rfl,o,C,dx,_,_,rfl,s1 _ _ ho,KC.cl,KC.nF,ai5 n a,a,xs,rfl,.inr (SqT.of (s1 _ _ ha)),_,_,rfl,fun e' he'=>?_⟩
    have mn:(if (xs.length:Int)<((zs.map V.int).length:Int) then (xs.length:Int) else ((zs.map V.int).length:Int))=((min fs.length zs.length:Nat):Int):=by
     rw [zl',pl]
     split <;> omega
    rw [mn]
    exact raiseB s1 e e' he'
   ·have he:fs.length=zs.length:=by
     simp at h
     omega
    rw [if_pos he] at e
    exact k e H1 s1
end
def leafP (nm:Str) (fs:List Fld) (zs:List Int) (f:Str) (r:List PyData):Bool:=
 if f = "all" then true else match r with
 |[.str x]=>decide (nm=x)
 |[.str x,.int i]=>if x∈fs.map (·.1) then (if f = "less" then decide (zs.getD ((fs.map (·.1)).idxOf x) 0<i) else decide (zs.getD ((fs.map (·.1)).idxOf x) 0=i)) else false
 |_=>false
def aa8 (nm:Str) (fs:List Fld) (zs:List Int):Nat->Str->List PyData->Bool
 |0,_,_=>false
 | n+1,f,r=>
   if f = "not" then (match r with
    |[.tuple (.str g::q)]=>!aa8 nm fs zs n g q
    |_=>false)
   else if f = "and" then (match r with
    |[.tuple (.str g::q),.tuple (.str h::p)]=>aa8 nm fs zs n g q && aa8 nm fs zs n h p
    |_=>false)
   else if f = "or" then (match r with
    |[.tuple (.str g::q),.tuple (.str h::p)]=>aa8 nm fs zs n g q || aa8 nm fs zs n h p
    |_=>false)
   else leafP nm fs zs f r
structure MD (K:PySem.W.Frag) (C:Addr) (m qual:Str) (st:Stmt) (ps:List Str) (f:Addr) (fd:FuncData):Prop where
 M:Meth K C m f
 F:Fun K m qual st f fd
 b:Binds K fd ps []
theorem kf_meth (n:Str) (a:Addr):(kf n a).lookup ("place_of" : Str)=none/\(kf n a).lookup ("need" : Str)=none:=⟨kf_no n a (by decide +kernel) (by decide +kernel),kf_no n a (by decide +kernel) (by decide +kernel)⟩
section
variable {P:Program} {w:World} {K:PySem.W.Frag} {mg:Str->Option Value} {base:Heap}
def spPl (K:Frag) (C:Addr):Sp:=fun vs H Q _=>∃ (q o a b:Addr) (f nm:Str) (r:List PyData) (fs:List Fld) (zs:List Int),vs=[.ref q,.ref o,.ref b]/\Rep K H (.ref q) (.tuple (.str f::r))/\Leaf f r/\ab8 C H o nm a fs/\fs.length≤4/\H b=some (.tup (zs.map V.int))/\zs.length=fs.length/\
 ∀ H',Same H H'->Q (.bl (leafP nm fs zs f r)) H'
abbrev NPl:List Str:=["leaf","kind","values","form","place"]
theorem scPlf:a77 NPl ["leaf","kind","values"] (a03 (top 32)):=⟨rfl,rfl,rfl,by decide +kernel,rfl,by decide +kernel,by decide +kernel⟩
theorem ok_pl {f C fM:Addr} {fd fdM:FuncData} (F:Fun K "passes_leaf" "passes_leaf" (top 32) f fd) (KC:KCls K mg C) (MP:MD K C "place_of" "Kind.place_of" (kM 3) ["self","field"] fM fdM) (GM:FnOk P w K mg base CX0 1 fM fdM ["self","field"] (spPlace C)):FnOk P w K mg base CX0 2 f fd ["leaf","kind","values"] (spPl K C):=by
 refine F.ok scPlf (fun vs H Q E h=>?_) (fun cdv A outer s H vs Q E hr h=>?_)
 ·obtain ⟨q,o,a,b,f,nm,r,fs,zs,rfl,_⟩:=h
  rfl
 ·obtain ⟨q,o,a,b,f,nm,r,fs,zs,rfl,rq,lf,ka,fl,hb,zl,k⟩:=h
  refine ⟨_,(a05 (a79 (i:=3) scPlf.nd rfl (Or.inl rfl) (a80 a78 (pv 0) a04 (fun _ _=>rfl)))
   (a05 (a84 (a67 a85 (pv 3) a65 (a72 _)) (a06 (a69 ar5)) a73)
   (a05 (a84 (a67 a85 (pv 3) a65 (a72 _)) (a06 (a69 (a94 a85 (pe_fld (pv 1) rfl) (a80 a78 (pv 0) a04 (fun _ _=>rfl)) (a72 _)))) a73)
   (a05 (a79 (i:=4) scPlf.nd rfl (Or.inl rfl) (pe_meth (E:=E0) (pv 1) KC.cl MP.M GM hr MP.b .nil a74 (a00 (a80 a78 (pv 0) a04 (fun _ _=>rfl)) a01)))
   (a05 (a84 (a67 op_isN (pv 4) ak7 (a72 _)) (a06 (a69 ar5)) a73)
   (a06 (a69 (ad9 (a67 a85 (pv 3) a65 (a72 _)) (a94 op_lt (a80 a78 (pv 2) (pv 4) (fun _ _=>rfl)) (a80 a78 (pv 0) a04 (fun _ _=>rfl)) (a72 _)) (a94 a85 (a80 a78 (pv 2) (pv 4) (fun _ _=>rfl)) (a80 a78 (pv 0) a04 (fun _ _=>rfl)) (a72 _)))))))))),?_⟩
  have ka0:=ka
  obtain ⟨⟨dx,ho⟩,_⟩:=ka0
  cases rq with
  |@tup _ xs _ sq rs=>
  cases lf with
  | all=>
    obtain ⟨x0,rfl⟩:∃ x0,xs=[x0]:=by
     cases rs with|cons r1 r2=>cases r2;exact ⟨_,rfl⟩
    cases rs with|cons r1 r2=>
    cases r1
    exact ⟨_,rfl,q,_,_,_,rfl,rfl,sq,a09 (j:=0) rfl,_,rfl,rfl,_,rfl,ifT (by decide +kernel) (k _ (Same.refl _))⟩
  | @is x hx=>
    obtain ⟨x0,x1,rfl⟩:∃ x0 x1,xs=[x0,x1]:=by
     cases rs with|cons r1 r2=>cases r2 with|cons r2 r3=>cases r3;exact ⟨_,_,rfl⟩
    cases rs with|cons r1 r2=>
    cases r2 with|cons r2 r3=>
    cases r1
    cases r2
    refine ⟨_,rfl,q,_,_,_,rfl,rfl,sq,a09 (j:=0) rfl,_,rfl,rfl,_,rfl,ifF (by decide +kernel) ⟨_,rfl,rfl,_,rfl,ifT (by decide +kernel) ?_⟩⟩
    refine ⟨_,rfl,o,C,dx,_,_,rfl,ho,KC.cl,KC.nN,kf_name nm a,_,rfl,q,_,_,_,rfl,rfl,sq,a09 (j:=1) rfl,rfl,?_⟩
    have e:decide (V.str nm=V.str x)=leafP nm fs zs "is" [.str x]:=by
     unfold leafP
     rw [if_neg (by decide +kernel)]
     simp
    show Q (.bl (decide (V.str nm=V.str x))) H
    rw [e]
    exact k _ (Same.refl _)
  | @num f' x i hf hx hi=>
    obtain ⟨x0,x1,x2,rfl⟩:∃ x0 x1 x2,xs=[x0,x1,x2]:=by
     cases rs with|cons r1 r2=>cases r2 with|cons r2 r3=>cases r3 with|cons r3 r4=>cases r4;exact ⟨_,_,_,rfl⟩
    cases rs with|cons r1 r2=>
    cases r2 with|cons r2 r3=>
    cases r3 with|cons r3 r4=>
    cases r1
    cases r2
    cases r3
    have n1:decide (V.str f=V.str "all")=false:=by rcases hf with rfl|rfl <;> decide +kernel
    have n2:decide (V.str f=V.str "is")=false:=by rcases hf with rfl|rfl <;> decide +kernel
    have n3:¬ f = "all":=by rcases hf with rfl|rfl <;> decide +kernel
    refine ⟨_,rfl,q,_,_,_,rfl,rfl,sq,a09 (j:=0) rfl,_,rfl,rfl,_,rfl,ifF n1 ⟨_,rfl,rfl,_,rfl,ifF n2 ?_⟩⟩
    refine ⟨_,rfl,o,dx,_,rfl,ho,(kf_meth nm a).1,_,rfl,q,_,_,_,rfl,rfl,sq,a09 (j:=1) rfl,o,a,nm,x,fs,rfl,ka,fl,fun H1 s1=>?_⟩
    have sq1:=s1.tup sq
    have hb1:=s1 _ _ hb
    unfold leafP at k
    rw [if_neg n3] at k
    unfold placeV
    by_cases hin:x∈fs.map (·.1)
    ·rw [if_pos hin]
     have k:∀ H',Same H H'->Q (.bl (if f = "less" then decide (zs.getD ((fs.map (·.1)).idxOf x) 0<i) else decide (zs.getD ((fs.map (·.1)).idxOf x) 0=i))) H':=fun H' s'=>by
      have:=k H' s'
      dsimp only at this
      rw [if_pos hin] at this
      exact this
     have il:(fs.map (·.1)).idxOf x<zs.length:=by
      have:=List.idxOf_lt_length_iff.mpr hin
      rw [List.length_map] at this
      omega
     have eg:zs.getD ((fs.map (·.1)).idxOf x) 0=zs[(fs.map (·.1)).idxOf x]:=by simp [List.getD_eq_getElem?_getD,il]
     rw [eg] at k
     refine ⟨_,rfl,rfl,_,rfl,ifF (by simp) ?_⟩
     have at1:atI (zs.map V.int) (((fs.map (·.1)).idxOf x:Nat):Int)=some (.int zs[(fs.map (·.1)).idxOf x]):=a09 (by rw [List.getElem?_map,List.getElem?_eq_getElem il];rfl)
     refine ⟨_,rfl,rfl,_,rfl,?_⟩
     rcases hf with rfl|rfl
     ·refine ifT (by decide +kernel) ?_
      have:=k _ s1
      rw [if_pos rfl] at this
      exact ⟨_,rfl,_,rfl,b,_,_,_,rfl,rfl,SqT.of hb1,at1,_,rfl,q,_,_,_,rfl,rfl,sq1,a09 (j:=2) rfl,_,_,rfl,rfl,this⟩
     ·refine ifF (by decide +kernel) ?_
      have:=k _ s1
      rw [if_neg (by decide +kernel)] at this
      refine ⟨_,rfl,_,rfl,b,_,_,_,rfl,rfl,SqT.of hb1,at1,_,rfl,q,_,_,_,rfl,rfl,sq1,a09 (j:=2) rfl,rfl,?_⟩
      have e:decide (V.int zs[(fs.map (·.1)).idxOf x]=V.int i)=decide (zs[(fs.map (·.1)).idxOf x]=i):=by simp
      rw [e]
      exact this
    ·rw [if_neg hin]
     have k:∀ H',Same H H'->Q (.bl false) H':=fun H' s'=>by
      have:=k H' s'
      dsimp only at this
      rw [if_neg hin] at this
      exact this
     exact ⟨_,rfl,rfl,_,rfl,ifT (by decide +kernel) (k _ s1)⟩
end
theorem bad_len:∀ {fs:List Fld} {zs:List Int},badV fs zs=none->zs.length=fs.length
 |[],[],_=>rfl
 |[],_::_,h=>by cases h
 |_::_,[],h=>by cases h
 | f::fs,z::zs,h=>by
   unfold badV at h
   split at h
   ·rw [Option.map_eq_none_iff] at h
    rw [List.length_cons,List.length_cons,bad_len h]
   ·cases h
def passT (nm:Str) (fs:List Fld) (zs:List Int):PyData->Bool
 |.tuple (.str f::r)=>aa8 nm fs zs 5 f r
 |_=>false
theorem node_form {n:Nat} {f:Str} {r:List PyData} (N:Node n f r) (tr:∀ d∈r,TD d):(f = "not"/\∃ g q,r=[.tuple (.str g::q)])∨((f = "and"∨f = "or")/\∃ g q h p,r=[.tuple (.str g::q),.tuple (.str h::p)]):=by
 have ar:=N.ar
 unfold arity at ar
 by_cases h1:f = "not"
 ·rw [if_pos h1] at ar
  injection ar with ar
  left
  refine ⟨h1,?_⟩
  match r,ar,N,tr with
  | [x],_,N,tr=>
    obtain ⟨g,q,rfl⟩:=aa4 (tr x (by simp)) (N.sh x (by simp))
    exact ⟨g,q,rfl⟩
 ·rw [if_neg h1] at ar
  right
  have two:∀ {r:List PyData},2=r.length->(∀ d∈r,TD d)->(∀ d∈r,a90 d=true)->∃ g q h p,r=[.tuple (.str g::q),.tuple (.str h::p)]:=by
   intro r e t s
   match r,e,t,s with
   | [x,y],_,t,s=>
     obtain ⟨g,q,rfl⟩:=aa4 (t x (by simp)) (s x (by simp))
     obtain ⟨h,p,rfl⟩:=aa4 (t y (by simp)) (s y (by simp))
     exact ⟨g,q,h,p,rfl⟩
  by_cases h2:f = "and"
  ·rw [if_pos h2] at ar
   injection ar with ar
   exact ⟨.inl h2,two ar tr N.sh⟩
  ·rw [if_neg h2] at ar
   by_cases h3:f = "or"
   ·rw [if_pos h3] at ar
    injection ar with ar
    exact ⟨.inr h3,two ar tr N.sh⟩
   ·rw [if_neg h3] at ar
    cases ar
theorem leaf_form {f:Str} (h:arity f=none):¬ f = "not"/\¬ f = "and"/\¬ f = "or":=by
 unfold arity at h
 refine ⟨fun z=>?_,fun z=>?_,fun z=>?_⟩
 ·rw [if_pos z] at h;cases h
 ·by_cases h1:f = "not"
  ·rw [if_pos h1] at h;cases h
  ·rw [if_neg h1,if_pos z] at h;cases h
 ·by_cases h1:f = "not"
  ·rw [if_pos h1] at h;cases h
  ·rw [if_neg h1] at h
   by_cases h2:f = "and"
   ·rw [if_pos h2] at h;cases h
   ·rw [if_neg h2,if_pos z] at h;cases h
theorem af2 {f g:Str} (h:¬ f=g):decide (V.str f=V.str g)=false:=by
 rw [decide_eq_false_iff_not,V.str.injEq];exact h
section
variable {P:Program} {w:World} {K:PySem.W.Frag} {mg:Str->Option Value} {base:Heap}
structure PsIn (K:Frag) (C:Addr) (n:Nat) (H:Hp) (q o a b:Addr) (f nm:Str) (r:List PyData) (fs:List Fld) (zs:List Int):Prop where
 rq:Rep K H (.ref q) (.tuple (.str f::r))
 td:TD (.tuple (.str f::r))
 sh:a90 (.tuple (.str f::r))=true
 de:a93 (.tuple (.str f::r))≤n
 ka:ab8 C H o nm a fs
 fl:fs.length≤4
 hb:H b=some (.tup (zs.map V.int))
 zl:zs.length=fs.length
def spPs (K:Frag) (C:Addr) (n:Nat):Sp:=fun vs H Q _=>∃ (q o a b:Addr) (f nm:Str) (r:List PyData) (fs:List Fld) (zs:List Int),vs=[.ref q,.ref o,.ref b]/\PsIn K C n H q o a b f nm r fs zs/\∀ H',Same H H'->Q (.bl (aa8 nm fs zs n f r)) H'
abbrev NPs:List Str:=["test","kind","values","form"]
theorem scPs:a77 NPs ["test","kind","values"] (a03 (top 31)):=⟨rfl,rfl,rfl,by decide +kernel,rfl,by decide +kernel,by decide +kernel⟩
theorem ok_ps {f C fL:Addr} {fd fdL:FuncData} (DP:Def K mg "passes" (top 31) ["test","kind","values"] f fd) (DL:Def K mg "passes_leaf" (top 32) ["leaf","kind","values"] fL fdL) (GL:FnOk P w K mg base CX0 2 fL fdL ["leaf","kind","values"] (spPl K C)) (n:Nat):FnOk P w K mg base CX0 (n+2) f fd ["test","kind","values"] (spPs K C n):=by
 refine Nat.rec (motive:=fun n=>FnOk P w K mg base CX0 (n+2) f fd ["test","kind","values"] (spPs K C n)) ⟨fun _ _ _ _ h=>?_,fun _ _ _ _ _ _ _ _ _ _ _ _ _ h=>?_⟩ (fun n GP=>?_) n
 ·obtain ⟨q,o,a,b,f,nm,r,fs,zs,_,h,_⟩:=h
  exact absurd (Nat.le_trans (ad1 _) h.de) (by decide)
 ·obtain ⟨q,o,a,b,f,nm,r,fs,zs,_,h,_⟩:=h
  exact absurd (Nat.le_trans (ad1 _) h.de) (by decide)
 refine DP.F.ok scPs (fun vs H Q E h=>?_) (fun cdv A outer s H vs Q E hr h=>?_)
 ·obtain ⟨q,o,a,b,f,nm,r,fs,zs,rfl,_⟩:=h
  rfl
 ·obtain ⟨q,o,a,b,f,nm,r,fs,zs,rfl,h,k⟩:=h
  have hr2:Room 2 _:=hr.mono (show 2≤n+2 by omega)
  refine ⟨_,(a05 (a79 (i:=3) scPs.nd rfl (Or.inl rfl) (a80 a78 (pv 0) a04 (fun _ _=>rfl)))
   (a05 (a84 (a67 a85 (pv 3) a65 (a72 _)) (a06 (a69 (pe_not (a07 GP hr rfl DP.mg DP.F.kp DP.b .nil a74 (a00 (a80 a78 (pv 0) a04 (fun _ _=>rfl)) (a00 (pv 1) (a00 (pv 2) a01))))))) a73)
   (a05 (a84 (a67 a85 (pv 3) a65 (a72 _)) (a06 (a69 (aa5 (a07 GP hr rfl DP.mg DP.F.kp DP.b .nil a74 (a00 (a80 a78 (pv 0) a04 (fun _ _=>rfl)) (a00 (pv 1) (a00 (pv 2) a01)))) (ac7 (a07 GP hr rfl DP.mg DP.F.kp DP.b .nil a74 (a00 (a80 a78 (pv 0) a04 (fun _ _=>rfl)) (a00 (pv 1) (a00 (pv 2) a01)))))))) a73)
   (a05 (a84 (a67 a85 (pv 3) a65 (a72 _)) (a06 (a69 (pe_or (a07 GP hr rfl DP.mg DP.F.kp DP.b .nil a74 (a00 (a80 a78 (pv 0) a04 (fun _ _=>rfl)) (a00 (pv 1) (a00 (pv 2) a01)))) (ac7 (a07 GP hr rfl DP.mg DP.F.kp DP.b .nil a74 (a00 (a80 a78 (pv 0) a04 (fun _ _=>rfl)) (a00 (pv 1) (a00 (pv 2) a01)))))))) a73)
   (a06 (a69 (a07 GL hr2 rfl DL.mg DL.F.kp DL.b .nil a74 (a00 (pv 0) (a00 (pv 1) (a00 (pv 2) a01)))))))))),?_⟩
  obtain ⟨rq,td,sh,de,ka,fl,hb,zl⟩:=h
  have rq0:=rq
  cases td with
  |node af lf nr tr=>
  cases rq with
  |@tup _ xs _ sq rs=>
  obtain ⟨x0,ys,rfl⟩:∃ x0 ys,xs=x0::ys:=by cases rs;exact ⟨_,_,rfl⟩
  obtain ⟨r0,rt⟩:Rep K H x0 (.str f)/\Reps K H ys r:=by cases rs with|cons a b=>exact ⟨a,b⟩
  cases r0
  refine ⟨_,rfl,q,_,_,_,rfl,rfl,sq,a09 (j:=0) rfl,_,rfl,rfl,_,rfl,?_⟩
  unfold aa8 at k
  rcases aj8 sh de with ⟨ha,hlf⟩|N
  ·obtain ⟨n1,n2,n3⟩:=leaf_form ha
   rw [if_neg n1,if_neg n2,if_neg n3] at k
   refine ifF (af2 n1) ⟨_,rfl,rfl,_,rfl,ifF (af2 n2) ⟨_,rfl,rfl,_,rfl,ifF (af2 n3) ?_⟩⟩
   exact ⟨_,rfl,_,rfl,_,rfl,q,o,a,b,f,nm,r,fs,zs,rfl,rq0,leaf_of hlf,ka,fl,hb,zl,k⟩
  ·rcases node_form N tr with ⟨rfl,g,u,rfl⟩|⟨hf,g,u,h,v,rfl⟩
   ·rw [if_pos rfl] at k
    cases rt with
    |@cons y1 _ y2 _ r1 r2=>
    cases r2
    cases r1 with
    |@tup q1 z1 _ s1 t1=>
    refine ifT (by decide +kernel) ⟨_,rfl,q,_,_,_,rfl,rfl,sq,a09 (j:=1) rfl,_,rfl,_,rfl,q1,o,a,b,g,nm,u,fs,zs,rfl,⟨.tup s1 t1,tr _ (by simp),N.sh _ (by simp),N.de _ (by simp),ka,fl,hb,zl⟩,fun H1 e1=>⟨_,rfl,k H1 e1⟩⟩
   ·cases rt with
    |@cons y1 _ y2 _ r1 r2=>
    cases r2 with
    |@cons y3 _ y4 _ r2 r3=>
    cases r3
    cases r1 with
    |@tup q1 z1 _ s1 t1=>
    cases r2 with
    |@tup q2 z2 _ s2 t2=>
    have i1:∀ {H1},Same H H1->PsIn K C n H1 q1 o a b g nm u fs zs:=fun e=>⟨.tup (e.tup s1) (t1.same e),tr _ (by simp),N.sh _ (by simp),N.de _ (by simp),ka.same e,fl,e _ _ hb,zl⟩
    have i2:∀ {H1},Same H H1->PsIn K C n H1 q2 o a b h nm v fs zs:=fun e=>⟨.tup (e.tup s2) (t2.same e),tr _ (by simp),N.sh _ (by simp),N.de _ (by simp),ka.same e,fl,e _ _ hb,zl⟩
    rcases hf with rfl|rfl
    ·rw [if_neg (by decide +kernel),if_pos rfl] at k
     refine ifF (by decide +kernel) ⟨_,rfl,rfl,_,rfl,ifT (by decide +kernel) ?_⟩
     refine ⟨_,rfl,q,_,_,_,rfl,rfl,sq,a09 (j:=1) rfl,_,rfl,_,rfl,q1,o,a,b,g,nm,u,fs,zs,rfl,i1 (Same.refl _),fun H1 e1=>⟨_,rfl,?_⟩⟩
     dsimp only at k
     cases hp:aa8 nm fs zs n g u with
     |false=>rw [hp,Bool.false_and] at k;exact ifF rfl (k _ e1)
     | true=>
       rw [hp,Bool.true_and] at k
       exact ifT rfl ⟨_,rfl,q,_,_,_,rfl,rfl,e1.tup sq,a09 (j:=2) rfl,_,rfl,_,rfl,q2,o,a,b,h,nm,v,fs,zs,rfl,i2 e1,fun H2 e2=>k _ (e1.trans e2)⟩
    ·rw [if_neg (by decide +kernel),if_neg (by decide +kernel),if_pos rfl] at k
     refine ifF (by decide +kernel) ⟨_,rfl,rfl,_,rfl,ifF (by decide +kernel) ⟨_,rfl,rfl,_,rfl,ifT (by decide +kernel) ?_⟩⟩
     refine ⟨_,rfl,q,_,_,_,rfl,rfl,sq,a09 (j:=1) rfl,_,rfl,_,rfl,q1,o,a,b,g,nm,u,fs,zs,rfl,i1 (Same.refl _),fun H1 e1=>⟨_,rfl,?_⟩⟩
     dsimp only at k
     cases hp:aa8 nm fs zs n g u with
     |true=>rw [hp,Bool.true_or] at k;exact ifT rfl (k _ e1)
     | false=>
       rw [hp,Bool.false_or] at k
       exact ifF rfl ⟨_,rfl,q,_,_,_,rfl,rfl,e1.tup sq,a09 (j:=2) rfl,_,rfl,_,rfl,q2,o,a,b,h,nm,v,fs,zs,rfl,i2 e1,fun H2 e2=>k _ (e1.trans e2)⟩
def spHo (K:Frag) (C cT cV:Addr):Sp:=fun vs H Q E=>∃ (x:V) (o a b:Addr) (d:PyData) (nm:Str) (fs:List Fld) (zs:List Int),vs=[x,.ref o,.ref b]/\Rep K H x d/\TD d/\ab8 C H o nm a fs/\fs.length≤4/\H b=some (.tup (zs.map V.int))/\zs.length≤70/\
 (ad4 d=true->badV fs zs=none->∀ H',Same H H'->Q (.bl (passT nm fs zs d)) H')/\(ad4 d=false->∀ H1 da H',Same H H1->an0 H1 btF da H'->E (.ref cT) (some da) H')/\
 (ad4 d=true->∀ i:Nat,badV fs zs=some i->∀ H1 da H',Same H H1->an0 H1 (bvF i) da H'->E (.ref cV) (some da) H')
theorem scHo:a77 ["test","kind","values"] ["test","kind","values"] (a03 (top 30)):=⟨rfl,rfl,rfl,by decide +kernel,rfl,by decide +kernel,by decide +kernel⟩
theorem ok_ho {f C fT fM fP cT cV:Addr} {fd fdT fdM fdP:FuncData} (F:Fun K "holds" "holds" (top 30) f fd) (KC:KCls K mg C) (DT:Def K mg "need_test" (top 29) ["test"] fT fdT) (GT:FnOk P w K mg base (CX1 P w) 11 fT fdT ["test"] (spNt K cT))
 (MN:MD K C "need" "Kind.need" (kM 4) ["self","values"] fM fdM) (GN:FnOk P w K mg base (CX1 P w) 5 fM fdM ["self","values"] (spNeed C cV)) (DP:Def K mg "passes" (top 31) ["test","kind","values"] fP fdP) (GP:FnOk P w K mg base CX0 7 fP fdP ["test","kind","values"] (spPs K C 5)):FnOk P w K mg base (CX1 P w) 12 f fd ["test","kind","values"] (spHo K C cT cV):=by
 refine F.ok1 scHo (fun vs H Q E h=>?_) (fun cdv A outer s H vs Q E hr h=>?_)
 ·obtain ⟨x,o,a,b,d,nm,fs,zs,rfl,_⟩:=h
  rfl
 ·obtain ⟨x,o,a,b,d,nm,fs,zs,rfl,rx,td,ka,fl,hb,zl,k,kt,kv⟩:=h
  have hr5:Room 5 _:=hr.mono (by decide)
  have hr7:Room 7 _:=hr.mono (by decide)
  refine ⟨_,(a05 (ab3 (a07 (E:=E) GT hr rfl DT.mg DT.F.kp DT.b .nil (pass1 fun _ _ _ h=>h) (a00 (pv 0) a01)))
   (a05 (ab3 (pe_meth (E:=E) (pv 1) KC.cl MN.M GN hr5 MN.b .nil (pass1 fun _ _ _ h=>h) (a00 (pv 2) a01)))
   (a06 (a69 (a07 (E:=E0) GP hr7 rfl DP.mg DP.F.kp DP.b .nil a74 (a00 (pv 0) (a00 (pv 1) (a00 (pv 2) a01)))))))),?_⟩
  refine ⟨_,rfl,x,d,rfl,rx,td,fun h1 H1 s1=>?_,fun h1 H1 da H' s1 th=>kt h1 H1 da H' s1 th⟩
  have ka1:=ka.same s1
  obtain ⟨⟨dx,ho⟩,_⟩:=id ka1
  refine ⟨_,rfl,o,dx,_,rfl,ho,(kf_meth nm a).2,_,rfl,o,a,b,nm,fs,zs,rfl,ka1,s1 _ _ hb,by omega,zl,fun h2 H2 s2=>?_,fun i h2 H2 da H' s2 th=>kv h1 i h2 H2 da H' (s1.trans s2) th⟩
  obtain ⟨sh,de,_⟩:=aq4 h1
  obtain ⟨f,r,rfl⟩:=aa4 td sh
  have S2:=s1.trans s2
  have rx2:=rx.same S2
  cases rx2 with
  |@tup q xs _ sq rs=>
  exact ⟨_,rfl,_,rfl,_,rfl,q,o,a,b,f,nm,r,fs,zs,rfl,⟨.tup sq rs,td,sh,de,ka.same S2,fl,S2 _ _ hb,bad_len h2⟩,fun H3 s3=>k h1 h2 H3 (S2.trans s3)⟩
end
def ae7 (x:Str) (ns:List Str) (n:Nat):List Nat:=(List.range n).filter fun i=>decide (ns[i]?=some x)
theorem spots_cons (x y:Str) (t:List Str):ae7 x (y::t) (t.length+1)=(if y=x then [0] else [])++(ae7 x t t.length).map Nat.succ:=by
 unfold ae7
 rw [List.range_succ_eq_map,List.filter_cons,List.filter_map]
 have e:((fun i=>decide ((y::t)[i]?=some x)) ∘ Nat.succ)=fun i=>decide (t[i]?=some x):=by
  funext i
  simp
 rw [e]
 by_cases h:y=x
 ·simp [h]
 ·simp [h]
theorem spots_of (x:Str):∀ ns:List Str,(x∉ns->ae7 x ns ns.length=[])/\(x∈ns->∃ r,ae7 x ns ns.length=ns.idxOf x::r)
 |[]=>⟨fun _=>rfl,fun h=>by simp at h⟩
 | y::t=>by
   obtain ⟨ih1,ih2⟩:=spots_of x t
   rw [List.length_cons,spots_cons]
   refine ⟨fun h=>?_,fun h=>?_⟩
   ·simp at h
    rw [if_neg (fun z=>h.1 z.symm),ih1 h.2]
    rfl
   ·by_cases e:y=x
    ·rw [if_pos e]
     exact ⟨_,by rw [List.idxOf_cons,show (y == x)=true from by simp [e]];rfl⟩
    ·rw [if_neg e]
     have hm:x∈t:=by
      rcases List.mem_cons.mp h with z|z
      ·exact absurd z.symm e
      ·exact z
     obtain ⟨r,er⟩:=ih2 hm
     refine ⟨r.map Nat.succ,?_⟩
     rw [er,List.idxOf_cons,show (y == x)=false from by simp [e]]
     rfl
section
variable {P:Program} {w:World} {K:PySem.W.Frag} {mg:Str->Option Value} {base:Heap}
structure LpIn (K:Frag) (n:Nat) (H:Hp) (q a b:Addr) (f:Str) (r:List PyData) (xs:List V) (fs:List Fld) (zs:List Int):Prop where
 rq:Rep K H (.ref q) (.tuple (.str f::r))
 td:TD (.tuple (.str f::r))
 sh:a90 (.tuple (.str f::r))=true
 de:a93 (.tuple (.str f::r))≤n
 ha:H a=some (.tup xs)
 pf:Paired (ad6 H) xs fs
 fl:fs.length≤4
 hb:H b=some (.tup (zs.map V.int))
 zl:zs.length=fs.length
def spLp (K:Frag) (n:Nat):Sp:=fun vs H Q _=>∃ (q a b:Addr) (f nm:Str) (r:List PyData) (xs:List V) (fs:List Fld) (zs:List Int),vs=[.ref q,.str nm,.ref a,.ref b]/\LpIn K n H q a b f r xs fs zs/\∀ H',Same H H'->Q (.bl (aa8 nm fs zs n f r)) H'
abbrev ALp:List Str:=["_law_test_here","_law_title","_law_fields_here","_law_values"]
abbrev NLp:List Str:=["_law_test_here","_law_title","_law_fields_here","_law_values","_law_both","_law_spots"]
theorem scLp:a77 NLp ALp (a03 (top 59)):=⟨rfl,rfl,rfl,by decide +kernel,rfl,by decide +kernel,by decide +kernel⟩
theorem ok_lp {f:Addr} {fd:FuncData} (DL:Def K mg "_law_passes" (top 59) ALp f fd) (T:Txt K mg) (n:Nat):FnOk P w K mg base CX0 n f fd ALp (spLp K n):=by
 refine Nat.rec (motive:=fun n=>FnOk P w K mg base CX0 n f fd ALp (spLp K n)) ⟨fun _ _ _ _ h=>?_,fun _ _ _ _ _ _ _ _ _ _ _ _ _ h=>?_⟩ (fun n GL=>?_) n
 ·obtain ⟨q,a,b,f,nm,r,xs,fs,zs,_,h,_⟩:=h
  exact absurd (Nat.le_trans (ad1 _) h.de) (by decide)
 ·obtain ⟨q,a,b,f,nm,r,xs,fs,zs,_,h,_⟩:=h
  exact absurd (Nat.le_trans (ad1 _) h.de) (by decide)
 refine DL.F.ok scLp (fun vs H Q E h=>?_) (fun cdv A outer s H vs Q E hr h=>?_)
 ·obtain ⟨q,a,b,f,nm,r,xs,fs,zs,rfl,_⟩:=h
  rfl
 ·obtain ⟨q,a,b,f,nm,r,xs,fs,zs,rfl,h,k⟩:=h
  refine ⟨_,(a05 (a84 (a67 a85 (a80 a78 (pv 0) a04 (fun _ _=>rfl)) a65 (a72 _)) (a06 (a69 (pe_not (a07 GL hr rfl DL.mg DL.F.kp DL.b .nil a74 (a00 (a80 a78 (pv 0) a04 (fun _ _=>rfl)) (a00 (pv 1) (a00 (pv 2) (a00 (pv 3) a01)))))))) a73)
   (a05 (a84 (a67 ad2 (a80 a78 (pv 0) a04 (fun _ _=>rfl)) (a96 (a00 a65 (a00 a65 a01))) rfl) (a05
    (af0 (g:=af9 0) (i:=4) (own:=["_law_part"]) (js:=[2,1,3]) (N':=["_law_part","_law_fields_here","_law_title","_law_values"]) (a89.of (osc:=a03 (top 59)) (N:=NLp) rfl rfl ⟨rfl,by decide +kernel,by decide +kernel,by decide +kernel,rfl,by decide +kernel⟩) rfl scLp.nd rfl rfl (al2 (aa0 af3 (pv 0) (ab2 a04) ab1)) (fun _ _ _ _ _=>(a82 (i:=0) (show List.Nodup (["_law_part","_law_fields_here","_law_title","_law_values"]:List Str) by decide +kernel) rfl (Or.inl rfl) (Or.inr rfl))) (fun _ _ _ _ _=>ad8) (fun _ _ _ _ _=>a07 GL hr rfl DL.mg DL.F.kp DL.b .nil a74 (a00 (pv 0) (a00 (pv 2) (a00 (pv 1) (a00 (pv 3) a01))))))
    (a06 (a69 (ad9 (a67 a85 (a80 a78 (pv 0) a04 (fun _ _=>rfl)) a65 (a72 _)) (a08 (an6 rfl) (by rfl) T.all bt_all (a00 (pv 4) a01)) (a08 (call_anyB rfl) (by rfl) T.any bt_any (a00 (pv 4) a01)))))) a73)
   (a05 (a84 (a67 a85 (a80 a78 (pv 0) a04 (fun _ _=>rfl)) a65 (a72 _)) (a06 (a69 ar5)) a73)
   (a05 (a84 (a67 a85 (a80 a78 (pv 0) a04 (fun _ _=>rfl)) a65 (a72 _)) (a06 (a69 (a94 a85 (pv 1) (a80 a78 (pv 0) a04 (fun _ _=>rfl)) (a72 _)))) a73)
   (a05 (af0 (g:=af9 0) (i:=5) (own:=["_law_at"]) (js:=[2,0]) (N':=["_law_at","_law_fields_here","_law_test_here"]) (a89.of (osc:=a03 (top 59)) (N:=NLp) rfl rfl ⟨rfl,by decide +kernel,by decide +kernel,by decide +kernel,rfl,by decide +kernel⟩) rfl scLp.nd rfl rfl (ab9 rfl T.range (a00 (a08 a66 (by rfl) T.len a86 (a00 (pv 2) a01)) a01)) (fun _ _ _ _ _=>(a82 (i:=0) (show List.Nodup (["_law_at","_law_fields_here","_law_test_here"]:List Str) by decide +kernel) rfl (Or.inl rfl) (Or.inr rfl))) (fun _ _ _ _ _=>ar7 (a67 (r:=rEq) a85 (a80 (r:=rIxT K) a78 (a80 (r:=rIxT K) a78 (pv 1) (pv 0) (fun _ _=>rfl)) a04 (fun _ _=>rfl)) (a80 (r:=rIxT K) a78 (pv 2) a04 (fun _ _=>rfl)) (a72 _))) (fun _ _ _ _ _=>pv 0))
   (a05 (a84 (a67 a85 (a08 a66 (by rfl) T.len a86 (a00 (pv 5) a01)) a04 (a72 _)) (a06 (a69 ar5)) a73)
   (a06 (a69 (ad9 (a67 a85 (a80 a78 (pv 0) a04 (fun _ _=>rfl)) a65 (a72 _)) (a94 op_lt (a80 a78 (pv 3) (a80 ac6 (pv 5) a04 (fun _ _=>rfl)) (fun _ _=>rfl)) (a80 a78 (pv 0) a04 (fun _ _=>rfl)) (a72 _)) (a94 a85 (a80 a78 (pv 3) (a80 ac6 (pv 5) a04 (fun _ _=>rfl)) (fun _ _=>rfl)) (a80 a78 (pv 0) a04 (fun _ _=>rfl)) (a72 _))))))))))),?_⟩
  obtain ⟨rq,td,sh,de,ha,pf,fl,hb,zl⟩:=h
  have rq0:=rq
  have pl:=Paired.length pf
  cases td with
  |node af lf nr tr=>
  cases rq with
  |@tup _ qs _ sq rs=>
  obtain ⟨x0,ys,rfl⟩:∃ x0 ys,qs=x0::ys:=by cases rs;exact ⟨_,_,rfl⟩
  obtain ⟨r0,rt⟩:Rep K H x0 (.str f)/\Reps K H ys r:=by cases rs with|cons a b=>exact ⟨a,b⟩
  cases r0
  have hl:=rt.length
  refine ⟨_,rfl,q,_,_,_,rfl,rfl,sq,a09 (j:=0) rfl,rfl,_,rfl,?_⟩
  unfold aa8 at k
  have ins:∀ {n':Nat} {g:Str} {u:List PyData} {y:V} {H1:Hp},Same H H1->Rep K H y (.tuple (.str g::u))->TD (.tuple (.str g::u))->a90 (.tuple (.str g::u))=true->a93 (.tuple (.str g::u))≤n'->∃ q1,y=.ref q1/\LpIn K n' H1 q1 a b g u xs fs zs:=by
   intro n' g u y H1 e ry t s d
   cases ry with
   |@tup q1 z1 _ s1 t1=>exact ⟨q1,rfl,.tup (e.tup s1) (t1.same e),t,s,d,e _ _ ha,aa9 pf fun _ _ z=>e _ _ z,fl,e _ _ hb,zl⟩
  rcases aj8 sh de with ⟨hna,hlf⟩|N
  ·obtain ⟨n1,n2,n3⟩:=leaf_form hna
   rw [if_neg n1,if_neg n2,if_neg n3] at k
   refine ifF (af2 n1) ⟨_,rfl,q,_,_,_,rfl,rfl,sq,a09 (j:=0) rfl,(show 2≤sizeLine by decide),fun t ht=>?_⟩
   have s0:Same H (upd H t (.tup [.str "and",.str "or"])):=Same.new ht
   refine ⟨t,_,rfl,.inr (SqT.of a02),rfl,rfl,_,rfl,?_⟩
   rw [inS2]
   generalize upd H t (.tup [.str "and",.str "or"])=H0 at s0 ⊢
   have sq0:=s0.tup sq
   refine ifF (decide_eq_false fun z=>z.elim n2 n3) ⟨_,rfl,q,_,_,_,rfl,rfl,sq0,a09 (j:=0) rfl,rfl,_,rfl,?_⟩
   have lf:=leaf_of hlf
   cases lf with
   |all=>exact ifT (by decide +kernel) (k _ s0)
   | @is x hx=>
     cases rt with|@cons y1 _ y2 _ r1 r2=>
     cases r2
     cases r1
     refine ifF (by decide +kernel) ⟨_,rfl,q,_,_,_,rfl,rfl,sq0,a09 (j:=0) rfl,rfl,_,rfl,ifT (by decide +kernel) ?_⟩
     refine ⟨_,rfl,_,rfl,q,_,_,_,rfl,rfl,sq0,a09 (j:=1) rfl,rfl,?_⟩
     have e:decide (V.str nm=V.str x)=leafP nm fs zs "is" [.str x]:=by
      unfold leafP
      rw [if_neg (by decide +kernel)]
      simp
     show Q (.bl (decide (V.str nm=V.str x))) H0
     rw [e]
     exact k _ s0
   | @num f' x i hf hx hi=>
     cases rt with|@cons y1 _ y2 _ r1 r2=>
     cases r2 with|@cons y3 _ y4 _ r2 r3=>
     cases r3
     cases r1
     cases r2
     have m1:decide (V.str f=V.str "all")=false:=by rcases hf with rfl|rfl <;> decide +kernel
     have m2:decide (V.str f=V.str "is")=false:=by rcases hf with rfl|rfl <;> decide +kernel
     have m3:¬ f = "all":=by rcases hf with rfl|rfl <;> decide +kernel
     unfold leafP at k
     rw [if_neg m3] at k
     dsimp only at k
     have ha0:=s0 _ _ ha
     have big:200000≤sizeLine:=by decide
     refine ifF m1 ⟨_,rfl,q,_,_,_,rfl,rfl,sq0,a09 (j:=0) rfl,rfl,_,rfl,ifF m2 ?_⟩
     refine ⟨_,rfl,a,xs,rfl,.inr (SqT.of ha0),(xs.length:Int),rfl,by omega,by omega,?_⟩
     refine comp_rangeF (lo:=0) (n:=xs.length) (fun j ws σ' H'=>(∃ v,σ'=[v,some (.ref a),some (.ref q)])/\H'=H0/\ws=(ae7 x (fs.map (·.1)) j).map fun j=>V.int (j:Nat)) (by omega) ⟨⟨none,rfl⟩,rfl,rfl⟩ ?_ ?_
     ·rintro j ws σ' H' hj ⟨⟨v,rfl⟩,rfl,rfl⟩ N hN
      rw [show (0:Int)+(j:Int)=((j:Nat):Int) from Int.zero_add _]
      have hxj:=List.getElem?_eq_getElem hj
      obtain ⟨⟨fn,flo,fhi⟩,hfj,b',e',hb'⟩:=ac3 pf hxj
      have hb0:=s0 _ _ hb'
      refine ⟨_,rfl,_,rfl,a,_,_,xs[j],rfl,rfl,SqT.of ha0,a09 hxj,b',_,_,_,e',rfl,SqT.of hb0,a09 (j:=0) rfl,_,rfl,q,_,_,_,rfl,rfl,sq0,a09 (j:=1) rfl,rfl,_,rfl,?_⟩
      have cd:decide (V.str fn=V.str x)=decide ((fs.map (·.1))[j]?=some x):=by
       rw [List.getElem?_map,hfj]
       simp
      have e1:ae7 x (fs.map (·.1)) (j+1)=ae7 x (fs.map (·.1)) j++(if decide ((fs.map (·.1))[j]?=some x)=true then [j] else []):=by
       unfold ae7
       rw [List.range_succ,List.filter_append,List.filter_cons,List.filter_nil]
      refine (show (if decide (V.str fn=V.str x)=true then _ else _) from ?_)
      rw [cd]
      cases hd:decide ((fs.map (·.1))[j]?=some x) with
      | true=>
        rw [hd] at e1
        exact ifT rfl ⟨_,rfl,hN _ _ _ ⟨⟨_,rfl⟩,rfl,by rw [e1];simp⟩ (by simp)⟩
      | false=>
        rw [hd] at e1
        exact ifF rfl (hN _ _ _ ⟨⟨_,rfl⟩,rfl,by rw [e1];simp⟩ (by simp))
     ·rintro ws σ' H' hw ⟨⟨v,rfl⟩,rfl,rfl⟩
      rw [show xs.length=(fs.map (·.1)).length by rw [List.length_map];exact pl] at hw ⊢
      refine ⟨Nat.le_trans hw (by rw [List.length_map];omega),fun p hp=>?_⟩
      obtain ⟨o1,o2⟩:=spots_of x (fs.map (·.1))
      have s1:Same H' (upd H' p (.lst ((ae7 x (fs.map (·.1)) (fs.map (·.1)).length).map fun j=>V.int (j:Nat)))):=Same.new hp
      have hp1:(upd H' p (.lst ((ae7 x (fs.map (·.1)) (fs.map (·.1)).length).map fun j=>V.int (j:Nat)))) p=some (.lst ((ae7 x (fs.map (·.1)) (fs.map (·.1)).length).map fun j=>V.int (j:Nat))):=a02
      generalize upd H' p (.lst ((ae7 x (fs.map (·.1)) (fs.map (·.1)).length).map fun j=>V.int (j:Nat)))=H1 at s1 hp1 ⊢
      have S1:=s0.trans s1
      have sq1:=S1.tup sq
      have hb1:=S1 _ _ hb
      by_cases hin:x∈fs.map (·.1)
      ·obtain ⟨rest,er⟩:=o2 hin
       rw [er,List.map_cons] at hp1
       rw [if_pos hin] at k
       have il:(fs.map (·.1)).idxOf x<zs.length:=by
        have:=List.idxOf_lt_length_iff.mpr hin
        rw [List.length_map] at this
        omega
       have eg:zs.getD ((fs.map (·.1)).idxOf x) 0=zs[(fs.map (·.1)).idxOf x]:=by simp [List.getD_eq_getElem?_getD,il]
       rw [eg] at k
       have at1:atI (zs.map V.int) (((fs.map (·.1)).idxOf x:Nat):Int)=some (.int zs[(fs.map (·.1)).idxOf x]):=a09 (by rw [List.getElem?_map,List.getElem?_eq_getElem il];rfl)
       refine ⟨_,rfl,p,_,rfl,.inl (SqL.of hp1),rfl,_,rfl,ifF (by simp;omega) ?_⟩
       refine ⟨_,rfl,q,_,_,_,rfl,rfl,sq1,a09 (j:=0) rfl,rfl,_,rfl,?_⟩
       rcases hf with rfl|rfl
       ·refine ifT (by decide +kernel) ?_
        have:=k _ S1
        rw [if_pos rfl] at this
        exact ⟨_,rfl,_,rfl,p,_,_,_,rfl,rfl,SqL.of hp1,a09 (j:=0) rfl,b,_,_,_,rfl,rfl,SqT.of hb1,at1,_,rfl,q,_,_,_,rfl,rfl,sq1,a09 (j:=2) rfl,_,_,rfl,rfl,this⟩
       ·refine ifF (by decide +kernel) ?_
        have:=k _ S1
        rw [if_neg (by decide +kernel)] at this
        refine ⟨_,rfl,_,rfl,p,_,_,_,rfl,rfl,SqL.of hp1,a09 (j:=0) rfl,b,_,_,_,rfl,rfl,SqT.of hb1,at1,_,rfl,q,_,_,_,rfl,rfl,sq1,a09 (j:=2) rfl,rfl,?_⟩
        have e:decide (V.int zs[(fs.map (·.1)).idxOf x]=V.int i)=decide (zs[(fs.map (·.1)).idxOf x]=i):=by simp
        rw [e]
        exact this
      ·rw [o1 hin,List.map_nil] at hp1
       rw [if_neg hin] at k
       exact ⟨_,rfl,p,_,rfl,.inl (SqL.of hp1),rfl,_,rfl,ifT (by decide +kernel) (k _ S1)⟩
  ·rcases node_form N tr with ⟨rfl,g,u,rfl⟩|⟨hf,g,u,h,v,rfl⟩
   ·rw [if_pos rfl] at k
    cases rt with
    |@cons y1 _ y2 _ r1 r2=>
    cases r2
    obtain ⟨q1,rfl,i1⟩:=ins (Same.refl _) r1 (tr _ (by simp)) (N.sh _ (by simp)) (N.de _ (by simp))
    exact ifT (by decide +kernel) ⟨_,rfl,q,_,_,_,rfl,rfl,sq,a09 (j:=1) rfl,_,rfl,_,rfl,_,rfl,q1,a,b,g,nm,u,xs,fs,zs,rfl,i1,fun H1 e1=>⟨_,rfl,k H1 e1⟩⟩
   ·have n1:¬ f = "not":=by rcases hf with rfl|rfl <;> decide +kernel
    refine ifF (af2 n1) ⟨_,rfl,q,_,_,_,rfl,rfl,sq,a09 (j:=0) rfl,(show 2≤sizeLine by decide),fun t ht=>?_⟩
    have s0:Same H (upd H t (.tup [.str "and",.str "or"])):=Same.new ht
    refine ⟨t,_,rfl,.inr (SqT.of a02),rfl,rfl,_,rfl,?_⟩
    rw [inS2]
    generalize upd H t (.tup [.str "and",.str "or"])=H0 at s0 ⊢
    have sq0:=s0.tup sq
    refine ifT (decide_eq_true hf) ⟨_,rfl,1,rfl,q,_,rfl,sq0,(fun e=>?_),fun p hp=>?_⟩
    ·rw [cut1] at e
     have:=congrArg List.length e
     simp at this
    rw [cut1]
    have sp:SqT K (upd H0 p (.tup ys)) p ys:=SqT.of a02
    have s1:Same H0 (upd H0 p (.tup ys)):=Same.new hp
    generalize upd H0 p (.tup ys)=H1 at sp s1 ⊢
    refine ⟨p,rfl,⟨_,sp⟩,?_⟩
    refine ai6 (K:=K) (a:=p) (xs:=ys) (fun i ws σ' H'=>(∃ v,σ'=[v,some (.ref a),some (.str nm),some (.ref b)])/\Same H1 H'/\ws=(([aa8 nm fs zs n g u,aa8 nm fs zs n h v].take i).map V.bl)) (Nat.le_trans (show ys.length≤2 by rw [hl];simp) (by decide)) ⟨⟨none,rfl⟩,Same.refl _,rfl⟩ (fun i ws σ' H' _ ⟨_,s2,_⟩=>s2.tup sp) ?_ ?_
    ·rintro i y ws σ' H2 hy hws ⟨⟨v',rfl⟩,s2,rfl⟩ N' hN
     obtain ⟨d,hd,ry⟩:=rt.get' hy
     have me:=List.mem_of_getElem? hd
     have il:i<2:=(List.getElem?_eq_some_iff.mp hd).1
     obtain ⟨g',u',rfl,hi⟩:∃ g' u',d=.tuple (.str g'::u')/\([aa8 nm fs zs n g u,aa8 nm fs zs n h v]:List Bool)[i]?=some (aa8 nm fs zs n g' u'):=by
      match i,il,hd with
      |0,_,hd=>exact ⟨g,u,by simpa using hd.symm,rfl⟩
      |1,_,hd=>exact ⟨h,v,by simpa using hd.symm,rfl⟩
     obtain ⟨q1,rfl,i1⟩:=ins ((s0.trans s1).trans s2) ry (tr _ me) (N.sh _ me) (N.de _ me)
     refine ⟨_,rfl,_,rfl,_,rfl,_,rfl,q1,a,b,g',nm,u',xs,fs,zs,rfl,i1,fun H3 s3=>?_⟩
     exact hN _ _ _ (by rw [List.length_append,hws];rfl) ⟨⟨_,rfl⟩,s2.trans s3,by rw [List.take_add_one,hi];simp⟩
    ·rintro ws σ' H2 hws ⟨⟨v',rfl⟩,s2,rfl⟩
     rw [List.take_of_length_le (by rw [hl];simp),show ([aa8 nm fs zs n g u,aa8 nm fs zs n h v]:List Bool).map V.bl=[.bl (aa8 nm fs zs n g u),.bl (aa8 nm fs zs n h v)] from rfl]
     refine ⟨(show 2≤sizeLine by decide),fun l hl'=>?_⟩
     have s3:Same H (upd H2 l (.lst [.bl (aa8 nm fs zs n g u),.bl (aa8 nm fs zs n h v)])):=((s0.trans s1).trans s2).trans (Same.new hl')
     have h3:(upd H2 l (.lst [.bl (aa8 nm fs zs n g u),.bl (aa8 nm fs zs n h v)])) l=some (.lst [.bl (aa8 nm fs zs n g u),.bl (aa8 nm fs zs n h v)]):=a02
     generalize upd H2 l (.lst [.bl (aa8 nm fs zs n g u),.bl (aa8 nm fs zs n h v)])=H3 at s3 h3 ⊢
     refine ⟨_,rfl,q,_,_,_,rfl,rfl,s3.tup sq,a09 (j:=0) rfl,rfl,_,rfl,?_⟩
     rcases hf with rfl|rfl
     ·rw [if_neg (by decide +kernel),if_pos rfl] at k
      have:=k _ s3
      refine ifT (by decide +kernel) ⟨_,rfl,l,[aa8 nm fs zs n g u,aa8 nm fs zs n h v],rfl,SqL.of h3,?_⟩
      simpa using this
     ·rw [if_neg (by decide +kernel),if_neg (by decide +kernel),if_pos rfl] at k
      have:=k _ s3
      refine ifF (by decide +kernel) ⟨_,rfl,l,[aa8 nm fs zs n g u,aa8 nm fs zs n h v],rfl,SqL.of h3,?_⟩
      simpa using this
end
def La (e:PyData):Prop:=TD e/\a99 e≤60/\∃ f r,e=.tuple (.str f::r)
theorem slw {K:Frag} {H:Hp} {a:Addr} {xs zs:List V} {lo hi:Option Int} {Q:VK} (ha:SqT K H a xs) (e:cutV xs lo hi=zs) (k:∀ l H',Same H H'->SqT K H' l zs->Q (.ref l) H'):rSlW K (.ref a) lo hi H Q:=by
 subst e
 exact ⟨a,xs,rfl,ha,fun e=>k a H (Same.refl _) (by rw [e];exact ha),fun p hp=>k p _ (Same.new hp) (SqT.of a02)⟩
section
variable {P:Program} {w:World} {K:PySem.W.Frag} {mg:Str->Option Value} {base:Heap}
def spKo:Sp:=fun vs H Q _=>∃ (p dc:Addr),vs=[.ref p]/\Dr H p dc/\∀ (t a:Addr) (nm:Str) (xs:List V) (fs:List Fld) (H':Hp),H' t=some (.tup [.str nm,.ref a])->Nm nm->H' a=some (.tup xs)->Paired (ad6 H') xs fs->fs.length≤4->(∀ f∈fs,FldOk f)->(fs.map (·.1)).Nodup->Dr H' p dc->But p H H'->Q (.ref t) H'
theorem scKo:a77 ["_law_d","_law_fields_here"] ["_law_d"] (a03 (top 60)):=⟨rfl,rfl,rfl,by decide +kernel,rfl,by decide +kernel,by decide +kernel⟩
theorem ok_ko {f fP fW fF:Addr} {fd fdP fdW fdF:FuncData} (F:Fun K "_law_kind_of" "_law_kind_of" (top 60) f fd) (T:Txt K mg) (DP:Def K mg "_law_pick" (top 35) ["_law_d","_law_many"] fP fdP) (DW:Def K mg "_law_word" (top 39) ["_law_d"] fW fdW) (GW:FnOk P w K mg base CX0 3 fW fdW ["_law_d"] aq2) (DF:Def K mg "_law_fields" (top 42) ["_law_d","_law_many"] fF fdF) (GF:FnOk P w K mg base CX0 5 fF fdF ["_law_d","_law_many"] (spFields K)):FnOk P w K mg base CX0 6 f fd ["_law_d"] spKo:=by
 have GP:FnOk P w K mg base CX0 1 fP fdP ["_law_d","_law_many"] ac9:=ab5 DP.F T
 refine F.ok scKo (fun vs H Q E h=>?_) (fun cdv A outer s H vs Q E hr h=>?_)
 ·obtain ⟨p,dc,rfl,_⟩:=h
  rfl
 ·obtain ⟨p,dc,rfl,D,k⟩:=h
  have hr1:Room 1 _:=hr.mono (by decide)
  have hr3:Room 3 _:=hr.mono (by decide)
  refine ⟨_,(a05 (a79 (i:=1) scKo.nd rfl (Or.inl rfl) (a07 GF hr rfl DF.mg DF.F.kp DF.b .nil a74 (a00 (pv 0) (a00 (a07 GP hr1 rfl DP.mg DP.F.kp DP.b .nil a74 (a00 (pv 0) (a00 a04 a01))) a01))))
   (a06 (a69 (a96 (a00 (a07 GW hr3 rfl DW.mg DW.F.kp DW.b .nil a74 (a00 (pv 0) a01)) (a00 (pv 1) a01)))))),?_⟩
  refine ⟨_,rfl,_,rfl,p,dc,_,rfl,D,by decide,by decide,fun m H1 m0 m1 D1 b1=>?_⟩
  refine ⟨p,dc,m,rfl,D1,m0,by omega,fun a xs fs H2 ha pf hl ok nd hn D2 b2=>?_⟩
  refine ⟨_,rfl,p,dc,rfl,D2,fun nm H3 hnm D3 b3=>⟨_,rfl,(show 2≤sizeLine by decide),fun t ht=>?_⟩⟩
  have ha3:H3 a=some (.tup xs):=b3 _ _ ha (D2.ne ha (by intro _ z;cases z))
  have pf3:Paired (ad6 H3) xs fs:=aa9 pf fun b ys e=>b3 _ _ e (D2.ne e (by intro _ z;cases z))
  exact k t a nm xs fs _ a02 hnm (Same.new ht _ _ ha3) (aa9 pf3 fun b ys e=>Same.new ht _ _ e) (by omega) ok nd (D3.new ht) (((b1.trans b2).trans b3).trans (But.new ht))
def spLA (K:Frag) (n:Nat):Sp:=fun vs H Q _=>∃ (a:Addr) (ds:List PyData),vs=[.ref a]/\Rep K H (.ref a) (.tuple ds)/\TD (.tuple ds)/\a99 (.tuple ds)≤n/\n≤8/\∀ (l:Addr) (ws:List V) (es:List PyData) (H':Hp),Same H H'->H l=none->H' l=some (.lst ws)->Reps K H' ws es->(∀ e∈es,La e)->es.length≤5 ^ n->Q (.ref l) H'
abbrev NLA:List Str:=["_law_test_here","_law_found","_law_part"]
theorem scLA:a77 NLA ["_law_test_here"] (a03 (top 63)):=⟨rfl,rfl,rfl,by decide +kernel,rfl,by decide +kernel,by decide +kernel⟩
theorem ok_la {f:Addr} {fd:FuncData} (DL:Def K mg "_law_leaves_any" (top 63) ["_law_test_here"] f fd) (T:Txt K mg) (n:Nat):FnOk P w K mg base CX0 n f fd ["_law_test_here"] (spLA K n):=by
 refine Nat.rec (motive:=fun n=>FnOk P w K mg base CX0 n f fd ["_law_test_here"] (spLA K n)) ⟨fun _ _ _ _ h=>?_,fun _ _ _ _ _ _ _ _ _ _ _ _ _ h=>?_⟩ (fun n GL=>?_) n
 ·obtain ⟨a,ds,_,_,_,h,_⟩:=h
  exact absurd h (by simp [a99])
 ·obtain ⟨a,ds,_,_,_,h,_⟩:=h
  exact absurd h (by simp [a99])
 refine DL.F.ok scLA (fun vs H Q E h=>?_) (fun cdv A outer s H vs Q E hr h=>?_)
 ·obtain ⟨a,ds,rfl,_⟩:=h
  rfl
 ·obtain ⟨a,ds,rfl,ra,td,dp,hn,k⟩:=h
  refine ⟨_,(a05 (a79 (i:=1) scLA.nd rfl (Or.inl rfl) (ad9 (a67 (op_neT hr.units) (pv 0) (a96 a01) (a72 _)) (a97 (a00 (pv 0) a01)) (a97 a01)))
   (a05 (ae6 PassesOwn.never rfl (al2 (aa0 af3 (pv 0) (ab2 a04) ab1)) (a82 (i:=2) scLA.nd rfl (Or.inl rfl)) (a06
    (a84 (ac8 (a08 a88 (by rfl) T.isinstance a76 (a00 (pv 2) (a00 (ac5 rfl T.tuple ac2) a01)))) (a06 (ab3 (pe_bm PySem.F.plainAttrs_list PySem.F.slot_list_extend PySem.F.type_list_extend mt_extend (pv 1) (a00 (a07 GL hr rfl DL.mg DL.F.kp DL.b .nil a74 (a00 (pv 2) a01)) a01)))) a73)))
   (a06 (a69 (pv 1))))),?_⟩
  have hdd:a99 (.tuple ds)=a95 ds+1:=rfl
  refine al3 (fun σ' H'=>∃ (l:Addr) (w0:List V) (e0:List PyData),σ'=[some (.ref a),some (.ref l),none]/\Same H H'/\H l=none/\H' l=some (.lst w0)/\Reps K H' w0 e0/\(∀ e∈e0,La e)/\e0.length≤1) ?nx1 fun N hN=>?st1
  case st1=>
   refine ⟨_,rfl,(show 0≤sizeLine by decide),fun t ht=>?_⟩
   have s0:Same H (upd H t (.tup [])):=Same.new ht
   have ht0:(upd H t (.tup [])) t=some (.tup []):=a02
   generalize upd H t (.tup [])=H0 at s0 ht0 ⊢
   refine ⟨ds,[],ra.same s0,.tup (SqT.of ht0) .nil,by omega,_,rfl,?_⟩
   have td0:=td
   cases td with
   |nil=>exact ifF rfl ⟨(show 0≤sizeLine by decide),fun l hl=>hN _ _ ⟨l,[],[],rfl,s0.trans (Same.new hl),ag2 s0 hl,a02,.nil,by simp,by simp⟩⟩
   | @node f r af lf nr tr=>
     refine ifT rfl ⟨_,rfl,(show 1≤sizeLine by decide),fun l hl=>hN _ _ ⟨l,[.ref a],[.tuple (.str f::r)],rfl,s0.trans (Same.new hl),ag2 s0 hl,a02,.cons ((ra.same s0).same (Same.new hl)) .nil,fun e m=>?_,by simp⟩⟩
     rw [List.mem_singleton.mp m]
     exact ⟨td0,by omega,_,_,rfl⟩
  rintro σ' H1 ⟨l,w0,e0,rfl,s1,hl,hl1,rw0,la0,c0⟩
  have inn:∀ d∈ds.drop 1,TD d/\a99 d≤n:=fun d m=>by
   cases td with
   |nil=>simp at m
   | @node f r af lf nr tr=>
     have m:d∈r:=m
     exact ⟨tr d m,ah8 dp m⟩
  have dl:(ds.drop 1).length≤4:=by
   cases td with
   |nil=>simp
   |@node f r af lf nr tr=>exact nr
  have p5:5 ^ n≤5 ^ 7:=Nat.pow_le_pow_right (by decide) (by omega)
  have p7:(5:Nat) ^ 7=78125:=by decide
  have p1:1≤5 ^ n:=Nat.le_trans Nat.one_le_two_pow (Nat.pow_le_pow_left (by decide) n)
  have big:1000000≤sizeLine:=by decide
  cases ra with
  |@tup _ xs _ sq rs=>
  have cutt:cutV xs (some 1) none=xs.drop 1:=by
   cases xs with
   |nil=>rfl
   |cons x0 ys=>exact cut1
  have rsd:=an3 1 rs
  have xl:=rsd.length
  refine ⟨_,rfl,1,rfl,?_⟩
  delta as6
  refine slw (s1.tup sq) cutt fun v H2 s2 sv=>?_
  refine ⟨v,rfl,⟨_,sv⟩,?_⟩
  refine for_tup (K:=K) (a:=v) (xs:=xs.drop 1) (fun i σ' H'=>∃ ws es u,σ'=[some (.ref a),some (.ref l),u]/\Same H H'/\SqT K H' v (xs.drop 1)/\H' l=some (.lst ws)/\Reps K H' ws es/\(∀ e∈es,La e)/\es.length≤1+i*5 ^ n) ⟨w0,e0,none,rfl,s1.trans s2,sv,s2 _ _ hl1,rw0.same s2,la0,by omega⟩ (fun i σ' H' _ ⟨_,_,_,_,_,q,_⟩=>q) ?_ ?_
  ·rintro i y σ' H3 hy ⟨ws,es,u,rfl,s3,sv3,hl3,rws,la,c3⟩
   have i4:i<4:=by
    have:=(List.getElem?_eq_some_iff.mp hy).1
    omega
   obtain ⟨d,hd,ry⟩:=rsd.get' hy
   obtain ⟨tdd,dpd⟩:=inn d (List.mem_of_getElem? hd)
   have ry3:=ry.same s3
   have nxt:es.length≤1+(i+1)*5 ^ n:=by rw [Nat.add_mul];omega
   have tup:∀ ds1,d=.tuple ds1->∃ q1,y=.ref q1:=fun ds1 e=>by
    subst e
    cases ry with
    |@tup q1 _ _ _ _=>exact ⟨q1,rfl⟩
   have go:∀ ds1,d=.tuple ds1->∃ q1,y=.ref q1/\Rep K H3 (.ref q1) (.tuple ds1)/\TD (.tuple ds1)/\a99 (.tuple ds1)≤n:=fun ds1 e=>by
    obtain ⟨q1,rfl⟩:=tup ds1 e
    subst e
    exact ⟨q1,rfl,ry3,tdd,dpd⟩
   by_cases isT:∃ ds1,d=.tuple ds1
   ·obtain ⟨ds1,e⟩:=isT
    obtain ⟨q1,rfl,rq1,td1,dp1⟩:=go ds1 e
    refine ⟨_,rfl,_,_,_,_,rfl,rq1,rfl,_,rfl,ifT rfl ?_⟩
    refine ⟨_,rfl,.inl ⟨rfl,_,SqL.of hl3⟩,_,rfl,q1,ds1,rfl,rq1,td1,dp1,by omega,fun l2 w2 e2 H4 s4 hn4 hl4 r4 la4 c4=>?_⟩
    have l1:=rws.length
    have l2':=r4.length
    have hi4:i*5 ^ n≤4*5 ^ n:=Nat.mul_le_mul_right _ (by omega)
    refine ⟨l,l2,ws,w2,rfl,rfl,s4 _ _ hl3,hl4,by omega,?_⟩
    refine ⟨ws++w2,es++e2,_,rfl,fun b u' e'=>?_,sqt_upd (s4.tup sv3) (s4 _ _ hl3),a02,at8 (s4 _ _ hl3) (fun e' m=>?_) (al9 (rws.same s4) r4),fun e' m=>?_,?_⟩
    ·rw [a68 (a70 e' hl)]
     exact s4 _ _ (s3 _ _ e')
    ·rcases List.mem_append.mp m with m|m
     ·exact (la e' m).1
     ·exact (la4 e' m).1
    ·rcases List.mem_append.mp m with m|m
     ·exact la e' m
     ·exact la4 e' m
    ·rw [List.length_append,Nat.add_mul]
     omega
   ·cases tdd with
    |str _ _=>exact ⟨_,rfl,_,_,_,_,rfl,ry3,rfl,_,rfl,ifF rfl ⟨ws,es,_,rfl,s3,sv3,hl3,rws,la,nxt⟩⟩
    |int _ _=>exact ⟨_,rfl,_,_,_,_,rfl,ry3,rfl,_,rfl,ifF rfl ⟨ws,es,_,rfl,s3,sv3,hl3,rws,la,nxt⟩⟩
    |nil=>exact absurd ⟨_,rfl⟩ isT
    |node af lf nr tr=>exact absurd ⟨_,rfl⟩ isT
  ·rintro σ' H3 ⟨ws,es,u,rfl,s3,sv3,hl3,rws,la,c3⟩
   refine ⟨_,rfl,k l ws es H3 s3 hl hl3 rws la ?_⟩
   have:(xs.drop 1).length*5 ^ n≤4*5 ^ n:=Nat.mul_le_mul_right _ (by omega)
   rw [Nat.pow_succ]
   omega
end
def rLenS (K:Frag):List V->Hp->VK->Prop:=fun xs H Q=>∃ p ys,xs=[.ref p]/\(SqL K H p ys∨SqT K H p ys)/\Q (.int ys.length) H
section
variable {P:Program} {w:World} {K:PySem.W.Frag} {mg:Str->Option Value} {base:Heap}
def spNo:Sp:=fun vs H Q _=>∃ (p dc a:Addr) (xs:List V) (fs:List Fld),vs=[.ref p,.ref a]/\Dr H p dc/\H a=some (.tup xs)/\Paired (ad6 H) xs fs/\fs.length≤4/\(∀ f∈fs,FldOk f)/\∀ (l:Addr) (ys:List Str) (H':Hp),H' l=some (.lst (ys.map V.str))->ys≠[]->ys.length≤5->(∀ y∈ys,Nm y)->Dr H' p dc->But p H H'->Q (.ref l) H'
theorem scNo:a77 ["_law_d","_law_fields_here"] ["_law_d","_law_fields_here"] (a03 (top 61)):=⟨rfl,rfl,rfl,by decide +kernel,rfl,by decide +kernel,by decide +kernel⟩
theorem ok_no {f fW:Addr} {fd fdW:FuncData} (F:Fun K "_law_names_of" "_law_names_of" (top 61) f fd) (DW:Def K mg "_law_word" (top 39) ["_law_d"] fW fdW) (GW:FnOk P w K mg base CX0 3 fW fdW ["_law_d"] aq2):FnOk P w K mg base CX0 4 f fd ["_law_d","_law_fields_here"] spNo:=by
 refine F.ok scNo (fun vs H Q E h=>?_) (fun cdv A outer s H vs Q E hr h=>?_)
 ·obtain ⟨p,dc,a,xs,fs,rfl,_⟩:=h
  rfl
 ·obtain ⟨p,dc,a,xs,fs,rfl,D,ha,pf,fl,fo,k⟩:=h
  have pl:=Paired.length pf
  refine ⟨_,(a06 (a69 (a81 op_cat (ak0 (g:=af9 0) (own:=["_law_field"]) (js:=[]) (N':=["_law_field"]) (a89.of (osc:=a03 (top 61)) (N:=["_law_d","_law_fields_here"]) rfl rfl ⟨rfl,by decide +kernel,by decide +kernel,by decide +kernel,rfl,by decide +kernel⟩) rfl (al2 (pv 1)) (fun _ _ _ _ _=>(a82 (i:=0) (show List.Nodup (["_law_field"]:List Str) by decide +kernel) rfl (Or.inl rfl) (Or.inr rfl))) (fun _ _ _ _ _=>ad8) (fun _ _ _ _ _=>a80 (r:=rIxT K) a78 (pv 0) a04 (fun _ _=>rfl))) (a97 (a00 (a07 GW hr rfl DW.mg DW.F.kp DW.b .nil a74 (a00 (pv 0) a01)) a01))))),?_⟩
  refine ⟨_,rfl,a,rfl,⟨xs,SqT.of ha⟩,?_⟩
  refine ai6 (K:=K) (a:=a) (xs:=xs) (fun i zs σ' H'=>(∃ v,σ'=[v])/\H'=H/\zs=((fs.map (·.1)).take i).map V.str) (Nat.le_trans (show xs.length≤4 by omega) (by decide)) ⟨⟨none,rfl⟩,rfl,rfl⟩ (fun i zs σ' H' _ ⟨_,e,_⟩=>by rw [e];exact SqT.of ha) ?_ ?_
  ·rintro i y zs σ' H2 hy hzs ⟨⟨v,rfl⟩,rfl,rfl⟩ N' hN
   obtain ⟨⟨fn,lo,hi⟩,hfi,b,rfl,hb⟩:=ac3 pf hy
   refine ⟨_,rfl,b,_,_,_,rfl,rfl,SqT.of hb,a09 (j:=0) rfl,?_⟩
   exact hN _ _ _ (by rw [List.length_append,hzs];rfl) ⟨⟨_,rfl⟩,rfl,by rw [List.take_add_one,List.getElem?_map,hfi];simp⟩
  ·rintro zs σ' H2 hzs ⟨⟨v,rfl⟩,rfl,rfl⟩
   rw [List.take_of_length_le (by rw [List.length_map];omega)]
   refine ⟨Nat.le_trans (show ((fs.map (·.1)).map V.str).length≤4 by rw [List.length_map,List.length_map];exact fl) (by decide),fun l hl=>?_⟩
   have s1:Same H2 (upd H2 l (.lst ((fs.map (·.1)).map V.str))):=Same.new hl
   have h1:(upd H2 l (.lst ((fs.map (·.1)).map V.str))) l=some (.lst ((fs.map (·.1)).map V.str)):=a02
   generalize upd H2 l (.lst ((fs.map (·.1)).map V.str))=H3 at s1 h1 ⊢
   refine ⟨_,rfl,p,dc,rfl,D.mono s1,fun nm H4 hnm D4 b4=>⟨(show 1≤sizeLine by decide),fun l2 hl2=>?_⟩⟩
   have h4:H4 l=some (.lst ((fs.map (·.1)).map V.str)):=b4 _ _ h1 ((D.mono s1).ne h1 (by intro _ z;cases z))
   refine ⟨l,l2,_,_,rfl,rfl,Same.new hl2 _ _ h4,a02,?_,fun l3 hl3=>?_⟩
   ·have big:1000≤sizeLine:=by decide
    rw [List.length_map,List.length_map,List.length_singleton]
    omega
   ·refine k l3 (fs.map (·.1)++[nm]) _ ?_ (by simp) (by rw [List.length_append,List.length_map,List.length_singleton];omega) (fun y m=>?_) ((D4.new hl2).new hl3) (((s1.but.trans b4).trans (But.new hl2)).trans (But.new hl3))
    ·rw [a02,List.map_append];rfl
    ·rcases List.mem_append.mp m with m|m
     ·obtain ⟨f1,m1,rfl⟩:=List.mem_map.mp m
      exact (fo f1 m1).nm
     ·rw [List.mem_singleton.mp m];exact hnm
end
def L3 (e:PyData):Prop:=TD e/\a99 e≤60/\∃ f d1 d2,e=.tuple [.str f,d1,d2]
theorem ints_rep {K:Frag} {H:Hp}:∀ ks:List Int,Reps K H (ks.map V.int) (ks.map PyData.int)
 |[]=>.nil
 |y::r=>.cons (.int y) (ints_rep r)
theorem ints_deps:∀ ks:List Int,a95 (ks.map PyData.int)≤60
 |[]=>by simp [a95]
 | y::r=>by
   have:=ints_deps r
   simp only [List.map_cons,a95,a99]
   omega
section
variable {P:Program} {w:World} {K:PySem.W.Frag} {mg:Str->Option Value} {base:Heap}
def spNv (K:Frag):Sp:=fun vs H Q _=>∃ (p dc q a:Addr) (ds:List PyData) (xs:List V) (fs:List Fld),vs=[.ref p,.ref q,.ref a]/\Dr H p dc/\Rep K H (.ref q) (.tuple ds)/\TD (.tuple ds)/\a99 (.tuple ds)≤7/\H a=some (.tup xs)/\Paired (ad6 H) xs fs/\fs.length≤4/\(∀ f∈fs,FldOk f)/\
 ∀ (b:Addr) (zs:List Int) (H':Hp),H' b=some (.tup (zs.map V.int))->zs.length=fs.length->Dr H' p dc->But p H H'->H b=none->Q (.ref b) H'
abbrev ANv:List Str:=["_law_d","_law_test_here","_law_fields_here"]
abbrev NNv:List Str:=["_law_d","_law_test_here","_law_fields_here","_law_asked","_law_found","_law_field","_law_near","_law_number_here"]
theorem scNv:a77 NNv ANv (a03 (top 62)):=⟨rfl,rfl,rfl,by decide +kernel,rfl,by decide +kernel,by decide +kernel⟩
theorem ok_nv {f fP fV fL:Addr} {fd fdP fdV fdL:FuncData} (F:Fun K "_law_near_values" "_law_near_values" (top 62) f fd) (T:Txt K mg) (hmax:mg "max" = none) (DP:Def K mg "_law_pick" (top 35) ["_law_d","_law_many"] fP fdP) (DV:Def K mg "_law_value" (top 43) ["_law_d","_law_field"] fV fdV) (GV:FnOk P w K mg base CX0 3 fV fdV ["_law_d","_law_field"] (spVal K)) (DL:Def K mg "_law_leaves_any" (top 63) ["_law_test_here"] fL fdL):FnOk P w K mg base CX0 8 f fd ANv (spNv K):=by
 have GP:FnOk P w K mg base CX0 1 fP fdP ["_law_d","_law_many"] ac9:=ab5 DP.F T
 have GL:FnOk P w K mg base CX0 7 fL fdL ["_law_test_here"] (spLA K 7):=ok_la DL T 7
 refine F.ok scNv (fun vs H Q E h=>?_) (fun cdv A outer s H vs Q E hr h=>?_)
 ·obtain ⟨p,dc,q,a,ds,xs,fs,rfl,_⟩:=h
  rfl
 ·obtain ⟨p,dc,q,a,ds,xs,fs,rfl,D,rq,td,dp,ha,pf,fl,fo,k⟩:=h
  have hr1:Room 1 _:=hr.mono (by decide)
  have hr3:Room 3 _:=hr.mono (by decide)
  refine ⟨_,(a05 (af0 (g:=af9 0) (i:=3) (own:=["_law_leaf_here"]) (js:=[]) (N':=["_law_leaf_here"]) (a89.of (osc:=a03 (top 62)) (N:=NNv) rfl rfl ⟨rfl,by decide +kernel,by decide +kernel,by decide +kernel,rfl,by decide +kernel⟩) rfl scNv.nd rfl rfl (at9 (a07 GL hr rfl DL.mg DL.F.kp DL.b .nil a74 (a00 (pv 1) a01))) (fun _ _ _ _ _=>(a82 (i:=0) (show List.Nodup (["_law_leaf_here"]:List Str) by decide +kernel) rfl (Or.inl rfl) (Or.inr rfl)))
   (fun _ _ _ _ _=>ar7 (PW.pt (ap7 (a67 (r:=rIn K false) ad2 (a80 (r:=rIxT K) a78 (pv 0) a04 (fun _ _=>rfl)) (a96 (a00 a65 (a00 a65 a01))) rfl) (ao9 (a67 (r:=rEq) a85 (a08 (r:=rLenS K) a66 (by rfl) T.len a86 (a00 (pv 0) a01)) a04 (a72 _)))))) (fun _ _ _ _ _=>pv 0))
   (a05 (a79 (i:=4) scNv.nd rfl (Or.inl rfl) (a97 a01))
   (a05 (ae6 PassesOwn.never rfl (al2 (pv 2)) (a82 (i:=5) scNv.nd rfl (Or.inr rfl)) (a05
    (af0 (g:=af9 0) (i:=6) (own:=["_law_leaf_here"]) (js:=[5]) (N':=["_law_leaf_here","_law_field"]) (a89.of (osc:=a03 (top 62)) (N:=NNv) rfl rfl ⟨rfl,by decide +kernel,by decide +kernel,by decide +kernel,rfl,by decide +kernel⟩) rfl scNv.nd rfl rfl (at9 (pv 3)) (fun _ _ _ _ _=>(a82 (i:=0) (show List.Nodup (["_law_leaf_here","_law_field"]:List Str) by decide +kernel) rfl (Or.inl rfl) (Or.inr rfl)))
     (fun _ _ _ _ _=>ar7 (PW.pt (ap7 (a67 (r:=rEqD K) (op_eqD hr.units) (a80 (r:=rIxT K) a78 (pv 0) a04 (fun _ _=>rfl)) (a80 (r:=rIxT K) a78 (pv 1) a04 (fun _ _=>rfl)) (a72 _)) (ao9 (ac8 (a08 (r:=rIsT K) a88 (by rfl) T.isinstance a76 (a00 (a80 (r:=rIxT K) a78 (pv 0) a04 (fun _ _=>rfl)) (a00 (ac5 rfl T.int ao2) a01)))))))) (fun _ _ _ _ _=>a80 (r:=rIxT K) a78 (pv 0) a04 (fun _ _=>rfl)))
    (a05 (a79 (i:=7) scNv.nd rfl (Or.inl rfl) (a07 GV hr3 rfl DV.mg DV.F.kp DV.b .nil a74 (a00 (pv 0) (a00 (pv 5) a01))))
    (a05 (a84 (PW.pt (ap7 (a67 (op_neL hr.units) (pv 6) (a97 a01) (a72 _)) (ao9 (a67 op_gt (a07 GP hr1 rfl DP.mg DP.F.kp DP.b .nil a74 (a00 (pv 0) (a00 a04 a01))) a04 (a72 _))))) (a06
     (a79 (i:=7) scNv.nd rfl (Or.inl rfl) (a08 (ai7 rfl) (by rfl) T.min bt_min (a00 (a80 a78 (pv 5) a04 (fun _ _=>rfl)) (a00 (a08 (call_max2 rfl) (by rfl) hmax bt_max (a00 (a80 a78 (pv 5) a04 (fun _ _=>rfl)) (a00 (a81 ae0 (a81 aa6 (a80 ac6 (pv 6) (a07 GP hr1 rfl DP.mg DP.F.kp DP.b .nil a74 (a00 (pv 0) (a00 (a08 a66 (by rfl) T.len a86 (a00 (pv 6) a01)) a01))) (fun _ _=>rfl)) (a07 GP hr1 rfl DP.mg DP.F.kp DP.b .nil a74 (a00 (pv 0) (a00 a04 a01)))) a04) a01))) a01))))) a73)
    (a06 (ab3 (pe_bm PySem.F.plainAttrs_list PySem.F.slot_list_append PySem.F.type_list_append ai9 (pv 4) (a00 (pv 7) a01))))))))
   (a06 (a69 (ac0 ad0 (by rfl) T.tuple ac2 (a00 (pv 4) a01))))))),?_⟩
  have big:1000000≤sizeLine:=by decide
  have p7:(5:Nat) ^ 7=78125:=by decide
  have pl:=Paired.length pf
  have nea:∀ {H':Hp} {b:Addr} {o:HO},H b=some o->(∀ kvs,o≠.dK kvs)->But p H H'->H' b=some o:=fun e ne b=>b _ _ e (D.ne e ne)
  refine ⟨_,rfl,q,ds,rfl,rq,td,dp,by decide,fun l0 ws0 es0 H1 s1 hl0 hl1 r1 la1 c1=>?_⟩
  rw [p7] at c1
  have wl:=r1.length
  refine ⟨l0,rfl,⟨_,SqL.of hl1⟩,?_⟩
  refine aq0 (K:=K) (a:=l0) (xs:=ws0) (fun i zs σ' H'=>(∃ v,σ'=[v])/\Same H1 H'/\∃ es,Reps K H' zs es/\∀ e∈es,L3 e) (by omega) ⟨⟨none,rfl⟩,Same.refl _,[],.nil,by simp⟩ (fun i zs σ' H' _ ⟨_,s',_⟩=>s'.seq (SqL.of hl1)) ?_ ?_
  ·rintro i y zs σ' H2 hy ⟨⟨v,rfl⟩,s2,es,rz,l3⟩ N hN
   obtain ⟨e,he,ry⟩:=r1.get' hy
   obtain ⟨tde,dpe,g,r,rfl⟩:=la1 e (List.mem_of_getElem? he)
   have ry2:=ry.same s2
   have ry2':=ry2
   cases ry2 with
   |@tup q1 us _ sq us'=>
   obtain ⟨x0,us1,rfl⟩:∃ x0 us1,us=x0::us1:=by cases us';exact ⟨_,_,rfl⟩
   obtain ⟨h0,ht⟩:Rep K H2 x0 (.str g)/\Reps K H2 us1 r:=by cases us' with|cons a b=>exact ⟨a,b⟩
   cases h0
   have ul:=ht.length
   refine ⟨_,rfl,q1,_,_,_,rfl,rfl,sq,a09 (j:=0) rfl,(show 2≤sizeLine by decide),fun t ht'=>?_⟩
   have s3:Same H2 (upd H2 t (.tup [.str "less",.str "same"])):=Same.new ht'
   refine ⟨t,_,rfl,.inr (SqT.of a02),rfl,rfl,_,rfl,?_⟩
   generalize upd H2 t (.tup [.str "less",.str "same"])=H3 at s3 ⊢
   refine ite2 (fun _=>?_) (fun _=>ifF rfl (hN _ _ _ ⟨⟨_,rfl⟩,s2.trans s3,es,rz.same s3,l3⟩ (by simp)))
   refine ⟨_,rfl,q1,_,rfl,.inr (s3.tup sq),rfl,_,rfl,ite2 (fun h3=>?_) (fun _=>hN _ _ _ ⟨⟨_,rfl⟩,s2.trans s3,es,rz.same s3,l3⟩ (by simp))⟩
   obtain ⟨d1,d2,rfl⟩:∃ d1 d2,r=[d1,d2]:=by
    have:r.length=2:=by
     simp at h3
     omega
    match r,this with
    |[d1,d2],_=>exact ⟨d1,d2,rfl⟩
   refine ⟨_,rfl,hN _ _ _ ⟨⟨_,rfl⟩,s2.trans s3,es++[.tuple [.str g,d1,d2]],al9 (rz.same s3) (.cons (ry2'.same s3) .nil),fun e' m=>?_⟩ (by simp)⟩
   rcases List.mem_append.mp m with m|m
   ·exact l3 e' m
   ·rw [List.mem_singleton.mp m]
    exact ⟨tde,dpe,g,d1,d2,rfl⟩
  ·rintro zs σ' H2 hz ⟨⟨v,rfl⟩,s2,es,rz,l3⟩
   refine ⟨by omega,fun la hla=>?_⟩
   have S2:=s1.trans s2
   have s3:Same H2 (upd H2 la (.lst zs)):=Same.new hla
   have h3:(upd H2 la (.lst zs)) la=some (.lst zs):=a02
   generalize upd H2 la (.lst zs)=H3 at s3 h3 ⊢
   refine ⟨(show 0≤sizeLine by decide),fun lf hlf=>?_⟩
   have s4:Same H3 (upd H3 lf (.lst [])):=Same.new hlf
   have h4:(upd H3 lf (.lst [])) lf=some (.lst []):=a02
   generalize upd H3 lf (.lst [])=H4 at s4 h4 ⊢
   have S4:=S2.trans (s3.trans s4)
   have D4:=D.mono S4
   have hlfn:H lf=none:=ag2 (S2.trans s3) hlf
   have nlp:lf≠p:=(D.neN hlfn).symm
   have nld:lf≠dc:=by
    obtain ⟨ws,e⟩:=D.cell
    exact (a70 e hlfn).symm
   have nla:la≠lf:=fun z=>by rw [z,hlf] at h3;cases h3
   refine ⟨_,rfl,a,rfl,⟨xs,SqT.of (S4 _ _ ha)⟩,?_⟩
   refine for_tup (K:=K) (a:=a) (xs:=xs) (fun i σ' H'=>∃ (zs':List Int) (u5 u6 u7:Option V),σ'=[some (.ref p),some (.ref q),some (.ref a),some (.ref la),some (.ref lf),u5,u6,u7]/\Dr H' p dc/\But p H H'/\H' la=some (.lst zs)/\Reps K H' zs es/\H' lf=some (.lst (zs'.map V.int))/\zs'.length=i) ⟨[],none,none,none,rfl,D4,S4.but,s4 _ _ h3,(rz.same s3).same s4,h4,rfl⟩ (fun i σ' H' _ ⟨_,_,_,_,_,_,b',_⟩=>SqT.of (nea ha (by intro _ z;cases z) b')) ?_ ?_
   ·rintro i y σ' H5 hy ⟨zs',u5,u6,u7,rfl,D5,b5,hla5,rz5,hlf5,zl⟩
    obtain ⟨⟨fn,lo,hi⟩,hfi,bf,rfl,hbf⟩:=ac3 pf hy
    have il:i<xs.length:=(List.getElem?_eq_some_iff.mp hy).1
    have hbf5:=nea hbf (by intro _ z;cases z) b5
    refine ⟨_,rfl,la,rfl,⟨_,SqL.of hla5⟩,?_⟩
    refine aq0 (K:=K) (a:=la) (xs:=zs) (fun i ns σ' H'=>(∃ v,σ'=[v,some (.ref bf)])/\H'=H5/\∃ ks:List Int,ns=ks.map V.int) (by omega) ⟨⟨none,rfl⟩,rfl,[],rfl⟩ (fun i ns σ' H' _ ⟨_,e,_⟩=>by rw [e];exact SqL.of hla5) ?_ ?_
    ·rintro j y ns σ' H6 hy' ⟨⟨v,rfl⟩,rfl,ks,rfl⟩ N hN
     obtain ⟨e,he,ry⟩:=rz5.get' hy'
     obtain ⟨tde,dpe,g,d1,d2,rfl⟩:=l3 e (List.mem_of_getElem? he)
     cases ry with
     |@tup q1 us _ sq us'=>
     cases us' with|@cons x0 _ us1 _ w0 w1=>
     cases w1 with|@cons x1 _ us2 _ w1 w2=>
     cases w2 with|@cons x2 _ us3 _ w2 w3=>
     cases w3
     cases tde with
     |node af lf' nr tr=>
     have e1:a99 d1≤59:=ah8 (n:=59) dpe (by simp)
     have t2:=tr d2 (by simp)
     refine ⟨_,rfl,q1,_,_,_,rfl,rfl,sq,a09 (j:=1) rfl,_,rfl,bf,_,_,_,rfl,rfl,SqT.of hbf5,a09 (j:=0) rfl,d1,.str fn,w1,.str _,by omega,_,rfl,ite2 (fun _=>?_) (fun _=>ifF rfl (hN _ _ _ ⟨⟨_,rfl⟩,rfl,ks,rfl⟩ (by simp)))⟩
     cases t2 with
     | @int i2 _ _=>
       cases w2
       refine ⟨_,rfl,q1,_,_,_,rfl,rfl,sq,a09 (j:=2) rfl,_,_,_,_,rfl,.int i2,rfl,_,rfl,ifT rfl ?_⟩
       exact ⟨_,rfl,q1,_,_,_,rfl,rfl,sq,a09 (j:=2) rfl,hN _ _ _ ⟨⟨_,rfl⟩,rfl,ks++[i2],by simp⟩ (by simp)⟩
     |str _ _=>exact ⟨_,rfl,q1,_,_,_,rfl,rfl,sq,a09 (j:=2) rfl,_,_,_,_,rfl,w2,rfl,_,rfl,ifF rfl (hN _ _ _ ⟨⟨_,rfl⟩,rfl,ks,rfl⟩ (by simp))⟩
     |nil=>exact ⟨_,rfl,q1,_,_,_,rfl,rfl,sq,a09 (j:=2) rfl,_,_,_,_,rfl,w2,rfl,_,rfl,ifF rfl (hN _ _ _ ⟨⟨_,rfl⟩,rfl,ks,rfl⟩ (by simp))⟩
     |node _ _ _ _=>exact ⟨_,rfl,q1,_,_,_,rfl,rfl,sq,a09 (j:=2) rfl,_,_,_,_,rfl,w2,rfl,_,rfl,ifF rfl (hN _ _ _ ⟨⟨_,rfl⟩,rfl,ks,rfl⟩ (by simp))⟩
    ·rintro ns σ' H6 hn ⟨⟨v,rfl⟩,rfl,ks,rfl⟩
     rw [List.length_map] at hn
     refine ⟨by rw [List.length_map];omega,fun ln hln=>?_⟩
     have s7:Same H6 (upd H6 ln (.lst (ks.map V.int))):=Same.new hln
     have h7:(upd H6 ln (.lst (ks.map V.int))) ln=some (.lst (ks.map V.int)):=a02
     generalize upd H6 ln (.lst (ks.map V.int))=H7 at s7 h7 ⊢
     have D7:=D5.mono s7
     refine ⟨_,rfl,_,rfl,p,dc,.ref bf,(fn,lo,hi),rfl,D7,⟨bf,rfl,s7 _ _ hbf5⟩,fo _ (List.mem_of_getElem? hfi),fun z H8 D8 b8=>?_⟩
     have b8':But p H H8:=(b5.trans s7.but).trans b8
     have h8n:H8 ln=some (.lst (ks.map V.int)):=b8 _ _ h7 (D7.ne h7 (by intro _ z;cases z))
     have hla8:H8 la=some (.lst zs):=b8 _ _ (s7 _ _ hla5) (D7.ne (s7 _ _ hla5) (by intro _ z;cases z))
     have rz8:=D7.reps b8 (rz5.same s7)
     have hlf8:H8 lf=some (.lst (zs'.map V.int)):=b8 _ _ (s7 _ _ hlf5) nlp
     clear b8 D7 hlf5 rz5 hla5 D5 b5 s7 hln h7
     try dsimp only [af9]
     refine al3 (fun σ' H'=>∃ z':Int,σ'=[some (.ref p),some (.ref q),some (.ref a),some (.ref la),some (.ref lf),some (.ref bf),some (.ref ln),some (.int z')]/\Dr H' p dc/\But p H H'/\H' la=some (.lst zs)/\Reps K H' zs es/\H' lf=some (.lst (zs'.map V.int))) ?nx2 fun N hN=>?st2
     case st2=>
      refine ⟨_,rfl,(show 0≤sizeLine by decide),fun l hl=>?_⟩
      have s9:Same H8 (upd H8 l (.lst [])):=Same.new hl
      have hl9:(upd H8 l (.lst [])) l=some (.lst []):=a02
      generalize upd H8 l (.lst [])=H9 at s9 hl9 ⊢
      have D9:=D8.mono s9
      have b9:But p H H9:=b8'.trans s9.but
      have h9n:=s9 _ _ h8n
      have hla9:=s9 _ _ hla8
      have rz9:=rz8.same s9
      have hlf9:=s9 _ _ hlf8
      refine ⟨ks.map PyData.int,[],.lst (SqL.of h9n) (ints_rep ks),.lst (SqL.of hl9) .nil,ints_deps ks,_,rfl,?_⟩
      by_cases hk:ks=[]
      ·have e:(!af1 (ks.map PyData.int) [])=false:=by subst hk;rfl
       rw [e]
       exact ifF rfl (ifF rfl (hN _ _ ⟨z,rfl,D9,b9,hla9,rz9,hlf9⟩))
      ·have e:(!af1 (ks.map PyData.int) [])=true:=by
        obtain ⟨y,r,rfl⟩:=List.exists_cons_of_ne_nil hk
        rfl
       rw [e]
       have k1:0<ks.length:=List.length_pos_iff.mpr hk
       have bump:∀ {H10 H11:Hp},Dr H10 p dc->H10 ln=some (.lst (ks.map V.int))->H10 la=some (.lst zs)->Reps K H10 zs es->H10 lf=some (.lst (zs'.map V.int))->But p H10 H11->H11 ln=some (.lst (ks.map V.int))/\H11 la=some (.lst zs)/\Reps K H11 zs es/\H11 lf=some (.lst (zs'.map V.int)):=fun d e1 e2 e3 e4 b=>⟨b _ _ e1 (d.ne e1 (by intro _ z;cases z)),b _ _ e2 (d.ne e2 (by intro _ z;cases z)),d.reps b e3,b _ _ e4 nlp⟩
       refine ifT rfl ⟨_,rfl,p,dc,_,rfl,D9,by decide,by decide,fun w1 H10 w0 w2 D10 b10=>?_⟩
       obtain ⟨g1,g2,g3,g4⟩:=bump D9 h9n hla9 rz9 hlf9 b10
       have b10':=b9.trans b10
       have hbf10:=nea hbf (by intro _ z;cases z) b10'
       refine ⟨_,_,rfl,rfl,_,rfl,ite2 (fun _=>?_) (fun _=>hN _ _ ⟨z,rfl,D10,b10',g2,g3,g4⟩)⟩
       refine ⟨_,rfl,bf,_,_,_,rfl,rfl,SqT.of hbf10,a09 (j:=2) rfl,_,rfl,bf,_,_,_,rfl,rfl,SqT.of hbf10,a09 (j:=1) rfl,?_⟩
       refine ⟨_,rfl,_,rfl,_,rfl,ln,_,rfl,.inl (SqL.of g1),p,dc,_,rfl,D10,by rw [List.length_map];omega,by rw [List.length_map];omega,fun a' H11 a0 a1 D11 b11=>?_⟩
       obtain ⟨ka,rfl⟩:=Int.eq_ofNat_of_zero_le a0
       have ka':ka<ks.length:=by rw [List.length_map] at a1;omega
       obtain ⟨f1,f2,f3,f4⟩:=bump D10 g1 g2 g3 g4 b11
       refine ⟨ln,_,_,.int ks[ka],rfl,rfl,SqL.of f1,a09 (by rw [List.getElem?_map,List.getElem?_eq_getElem ka'];rfl),_,rfl,p,dc,_,rfl,D11,by decide,by decide,fun c H12 c0 c1 D12 b12=>?_⟩
       obtain ⟨e1,e2,e3,e4⟩:=bump D11 f1 f2 f3 f4 b12
       exact ⟨_,_,rfl,rfl,_,_,rfl,rfl,_,_,rfl,_,_,rfl,hN _ _ ⟨_,rfl,D12,(b10'.trans b11).trans b12,e2,e3,e4⟩⟩
     rintro σ' H9 ⟨z',rfl,D9,b9,hla9,rz9,hlf9⟩
     have zl4:zs'.length<4:=by omega
     refine ⟨_,rfl,.inl ⟨rfl,_,SqL.of hlf9⟩,_,rfl,lf,_,_,rfl,rfl,hlf9,Nat.lt_of_lt_of_le (show (zs'.map V.int).length<4 by rw [List.length_map];exact zl4) (by decide),?_⟩
     refine ⟨zs'++[z'],_,_,_,rfl,D9.put nlp nld,fun b o e ne=>?_,?_,at8 hlf9 (fun e m=>(l3 e m).1) rz9,?_,by rw [List.length_append,zl];rfl⟩
     ·rw [a68 (a70 e hlfn)]
      exact b9 b o e ne
     ·rw [a68 nla]
      exact hla9
     ·rw [a02,List.map_append]
      rfl
   ·rintro σ' H5 ⟨zs',u5,u6,u7,rfl,D5,b5,hla5,rz5,hlf5,zl⟩
    refine ⟨_,rfl,lf,_,rfl,.inl ⟨SqL.of hlf5,fun b hb=>k b zs' _ a02 (by omega) (D5.new hb) (b5.trans (But.new hb)) ?_⟩⟩
    cases z:H b with
    |none=>rfl
    | some o=>
      by_cases e:b=p
      ·obtain ⟨kvs,e5⟩:=D5.dk
       rw [e,e5] at hb
       cases hb
      ·have:=b5 _ _ z e
       rw [hb] at this
       cases this
end
def lamIf:Stmt->Expr
 |.If (.UnaryOp _ (.Call _ (.Call _ (e::_) _ _::_) _ _) _) _ _ _=>e
 |_=>.Constant .none 0 ⟨0,0,0,0⟩
def forBody:Stmt->List Stmt
 |.For _ _ b _ _=>b
 |_=>[]
def lParams:Expr->Arguments
 |.Lambda p _ _ _=>p
 |_=>{ posonlyargs:=[],args:=[],vararg:=none,kwonlyargs:=[],kw_defaults:=[],kwarg:=none,defaults:=[] }
def lBody:Expr->Expr
 |.Lambda _ b _ _=>b
 |e=>e
def ao8:Expr->Scope
 |.Lambda _ _ s _=>s
 |_=>{ kind:=.function,names:=[],isGenerator:=false,isCoroutine:=false }
def lPos:Expr->Pos
 |.Lambda _ _ _ p=>p
 |_=>⟨0,0,0,0⟩
def noS:Stmt:=.Pass ⟨0,0,0,0⟩
def lamH:Expr:=lamIf ((forBody ((forBody ((a71 (top 64)).getD 1 noS)).getD 5 noS)).getD 5 noS)
abbrev NL:List Str:=["_law_test_here","_law_sort","_law_values"]
theorem _root_.L2.TabI.but {H H':Hp} {T p dc:Addr} {qual:Str} {lps:List Pos} (h:TabI H T qual lps) (D:Dr H p dc) (b:But p H H'):TabI H' T qual lps:=h.keep fun q u e ne=>b q u e (D.ne e ne)
structure BadT (K:Frag) (cT cV cS:Addr):Prop where
 nv:mroIn K cT (.ref cV)=some false
 se:mroIn K cT (.ref cS)=some true
 gt:XGet K cT "word"
structure BadV (K:Frag) (cV:Addr):Prop where
 mv:mroIn K cV (.ref cV)=some true
 gt:XGet K cV "at"
def dueW (d:PyData) (fs:List Fld) (zs:List Int):Str:=if ad4 d=true then ag4 fs zs else "badtest"
section
variable {P:Program} {w:World} {K:PySem.W.Frag} {mg:Str->Option Value} {base:Heap}
def rAskH (K:Frag) (C:Addr) (qual:Str) (cl:List (Str×Addr)) (pm:Value):St->List V->Hp->VK->Prop:=fun σ vs H Q=>∃ f c' ctv x d o a b nm fs zs,vs=[.ref f]/\H f=some (lamO f (kla_obj "<lambda>" qual (lParams lamH) (lBody lamH) (ao8 lamH) cl pm c' ctv))/\H c'=some (ao6 c' qual)/\
 σ[6]?=some (some x)/\σ[7]?=some (some (.ref o))/\σ[9]?=some (some (.ref b))/\Rep K H x d/\TD d/\ab8 C H o nm a fs/\fs.length≤4/\H b=some (.tup (zs.map V.int))/\zs.length≤70/\
 ∀ H',Same H H'->∀ l,H' l=none->Q (.ref l) (upd H' l (.lst [.str (dueW d fs zs),if dueW d fs zs = "" then .bl (passT nm fs zs d) else .non]))
theorem bvW_ne (i:Nat):¬ bvW i = "":=fun h=>by
 have:=congrArg Str.length h
 unfold bvW at this
 rw [Str.length_append,show (("badvalue " : Str)).length=9 from by decide +kernel,show (("" : Str)).length=0 from by decide +kernel] at this
 omega
theorem ask_H {X:Cx} {C fN cV cS cM cT:Addr} {fdN:FuncData} {qual:Str} {cl:List (Str×Addr)} {pm:Value} {E:XK} {pins:List (Addr×Obj)} {σ:St} {H:Hp} {s:Shared} {vs:List V} {Q:VK}
 (hcl:∀ p∈cl,X.env.cells.lookup p.1=some p.2) (hfn:∀ x,X.fn x=true) (hhas:∀ p∈(ao8 lamH).names,(p.2=.cell∨p.2=.free)->p.1∈cl.map (·.1)) (hown:∀ x∈NL,X.env.scope.names.lookup x=some .cell) (hN:[X.N[6]?,X.N[7]?,X.N[9]?]=NL.map some) (hst:X.stack=X.env::X.outer) (hfm:X.env.frame=some X.env.locals)
 (DN:Def X.K X.mg "holds" (top 30) ["test","kind","values"] fN fdN) (GN:FnOk X.prog X.w X.K X.mg X.base (CX1 X.prog X.w) 12 fN fdN ["test","kind","values"] (spHo X.K C cT cV)) (BT:BadT X.K cT cV cS) (BV:BadV X.K cV)
 (I:Inv X pins σ H s) (h:rAskH X.K C qual cl pm σ vs H Q):spAsk X.prog X.w X.K X.mg X.base 13 cV cS cM s X.stack vs H Q E:=by
 obtain ⟨f,c',ctv,x,d,o,a,b,nm,fs,zs,rfl,ho,hc,h6,h7,h9,rd,td,ka,fl,hb,zl,k⟩:=h
 have Cl:=clos_of (scope:=ao8 lamH) (NL:=NL) (js:=[6,7,9]) I hcl hfn hhas (by decide +kernel) hown (by rw [← hN];rfl) hst hfm
 have ev:freeV [6,7,9] σ=[some x,some (.ref o),some (.ref b)]:=by
  unfold freeV
  rw [List.map_cons,List.map_cons,List.map_cons,List.map_nil,h6,h7,h9]
  rfl
 rw [ev] at Cl
 refine ⟨f,fun v H'=>v=.bl (passT nm fs zs d)/\ad4 d=true/\badV fs zs=none/\Same H H',fun cls dd H'=>∃ (H1:Hp) (da:Addr),dd=some da/\Same H H1/\((ad4 d=false/\cls=.ref cT/\an0 H1 btF da H')∨∃ i:Nat,ad4 d=true/\badV fs zs=some i/\cls=.ref cV/\an0 H1 (bvF i) da H'),rfl,?_,?_,?_⟩
 ·refine thunk_lam (N:=NL) (k:=12) ho hc Cl rfl rfl rfl rfl (by decide +kernel) (fun A outer s hr=>a07 GN hr rfl DN.mg DN.F.kp DN.b .nil (passL fun _ _ _ h=>h) (a00 (pv 0) (a00 (pv 1) (a00 (pv 2) a01)))) ?_
  exact ⟨_,rfl,_,rfl,_,rfl,x,o,a,b,d,nm,fs,zs,rfl,rd,td,ka,fl,hb,zl,fun h1 h2 H' s1=>⟨rfl,h1,h2,s1⟩,fun h1 H1 da H' s1 th=>⟨H1,da,rfl,s1,.inl ⟨h1,rfl,th⟩⟩,fun h1 i h2 H1 da H' s1 th=>⟨H1,da,rfl,s1,.inr ⟨i,h1,h2,rfl,th⟩⟩⟩
 ·rintro v H' ⟨rfl,h1,h2,s1⟩ l hl
  have e:dueW d fs zs = "":=by unfold dueW ag4;rw [if_pos h1,h2]
  have:=k H' s1 l hl
  rw [e,if_pos rfl] at this
  exact this
 ·rintro cls dd H' ⟨H1,da,rfl,s1,⟨h1,rfl,d0,rfl⟩|⟨i,h1,h2,rfl,d0,rfl⟩⟩
  ·have e:dueW d fs zs = "badtest":=by unfold dueW;rw [if_neg (by rw [h1];decide)]
   refine ⟨_,da,_,"badtest",rfl,rfl,a02,.inr (.inl ⟨BT.nv,BT.se,BT.gt,?_⟩),fun l hl=>?_⟩
   ·rw [List.lookup_cons,show (("word" : Str) == ("word" : Str))=true from by decide +kernel]
   ·have:=k _ (fun b u e=>by rw [a68 (a70 (s1 _ _ e) d0)];exact s1 _ _ e) l hl
    rw [e,if_neg (by decide +kernel)] at this
    exact this
  ·have e:dueW d fs zs=bvW i:=by unfold dueW ag4;rw [if_pos h1,h2]
   have bl:=bad_le h2
   have tx:=aj0 (m:=i) (by omega)
   have big:3000≤sizeLine:=by decide
   have e1:("badvalue " : Str).length=9:=by decide +kernel
   refine ⟨_,da,_,bvW i,rfl,rfl,a02,.inl ⟨BV.mv,BV.gt,i,?_,tx.2,by have:=tx.1;omega,rfl⟩,fun l hl=>?_⟩
   ·rw [show bvF i=[(("word" : Str),V.str "badvalue"),("at",.int i)] from rfl,List.lookup_cons,show (("at" : Str) == ("word" : Str))=false from by decide +kernel,List.lookup_cons,show (("at" : Str) == ("at" : Str))=true from by decide +kernel]
   ·have:=k _ (fun b u e=>by rw [a68 (a70 (s1 _ _ e) d0)];exact s1 _ _ e) l hl
    rw [e,if_neg (bvW_ne i)] at this
    exact this
end
theorem Lam.keeps {H H1:Hp} {T c' f':Addr} {lp:Pos} {qual:Str} (lm:Lam H T lp qual c' H1) (hf:H1 f'=none) {o:HO}:∀ b u,H b=some u->(∀ qs,u≠.tbl qs)->(upd H1 f' o) b=some u:=fun b u e ne=>by
 have e9:=lm.keep e ne
 rw [a68 (a70 e9 hf)];exact e9
theorem Dr.keeps {H H':Hp} {p dc:Addr} (D:Dr H p dc) (k:∀ b u,H b=some u->(∀ qs,u≠.tbl qs)->H' b=some u):Dr H' p dc:=by
 obtain ⟨ms,ba,br,bs,e1,e2,rest⟩:=D.ex
 exact ⟨ms,ba,br,bs,k _ _ e1 (by intro _ z;cases z),k _ _ e2 (by intro _ z;cases z),rest⟩
theorem Rep.keeps {K:Frag} {H H':Hp} (k:∀ b u,H b=some u->(∀ qs,u≠.tbl qs)->H' b=some u) {v:V} {d:PyData} (h:Rep K H v d):Rep K H' v d:=by
 refine h.map (fun a xs q=>?_) (fun a xs q=>?_)
 ·rcases q with (q|⟨o,q⟩)|q
  ·exact .inl (.inl (k _ _ q (by intro _ z;cases z)))
  ·exact .inl (.inr ⟨o,k _ _ q (by intro _ z;cases z)⟩)
  ·exact .inr q
 ·rcases q with (q|⟨o,q⟩)|q
  ·exact .inl (.inl (k _ _ q (by intro _ z;cases z)))
  ·exact .inl (.inr ⟨o,k _ _ q (by intro _ z;cases z)⟩)
  ·exact .inr q
theorem ab8.keeps {C o a:Addr} {n:Str} {fs:List Fld} {H H':Hp} (k:∀ b u,H b=some u->(∀ qs,u≠.tbl qs)->H' b=some u) (h:ab8 C H o n a fs):ab8 C H' o n a fs:=by
 obtain ⟨⟨dx,ho⟩,xs,ha,pf⟩:=h
 exact ⟨⟨dx,k _ _ ho (by intro _ z;cases z)⟩,xs,k _ _ ha (by intro _ z;cases z),aa9 pf fun b ys e=>k _ _ e (by intro _ z;cases z)⟩
theorem ab8.but {C o a p dc:Addr} {n:Str} {fs:List Fld} {H H':Hp} (h:ab8 C H o n a fs) (D:Dr H p dc) (b:But p H H'):ab8 C H' o n a fs:=by
 obtain ⟨⟨dx,ho⟩,xs,ha,pf⟩:=h
 exact ⟨⟨dx,b _ _ ho (D.ne ho (by intro _ z;cases z))⟩,xs,b _ _ ha (D.ne ha (by intro _ z;cases z)),aa9 pf fun q ys e=>b _ _ e (D.ne e (by intro _ z;cases z))⟩
abbrev qL:Str:="law.<locals>."++"<lambda>"
abbrev NLaw:List Str:=["_law_script","_law_d","_law_turn","_law_title","_law_fields_here","_law_names","_law_test_here","_law_sort","_law_step","_law_values","_law_due"]
def clL (n:Nat):List (Str×Addr):=[("_law_values",n+1+1+1),("_law_test_here",n+1+1),("_law_sort",n+1)]
theorem ah6:a77 NLaw ["_law_script"] (a03 (top 64)):=⟨rfl,rfl,rfl,by decide +kernel,rfl,by decide +kernel,by decide +kernel⟩
section
variable {P:Program} {w:World} {K:PySem.W.Frag} {mg:Str->Option Value} {base:Heap}
def spLaw (K:PySem.W.Frag) (Tt:Addr) (ps:Array Value):Sp:=fun vs H Q _=>∃ (a:Addr) (ns:List Int),vs=[.ref a]/\SqL K H a (ns.map V.int)/\ns.length≤63/\H Tt=some (.tbl ps)/\∀ H',Q (.bl true) H'
theorem ok_law {f c Tt fB fP fW fS fA fKo fNo fTe fBt fTo fNv fBv fVw fLp fHo fKI C cV cS cM cT:Addr} {fdB fdP fdW fdS fdA fdKo fdNo fdTe fdBt fdTo fdNv fdBv fdVw fdLp fdHo fdKI:FuncData} {oc kV doc pm ct:Value} {od an:Option Addr} {osl:Array (Option Value)} {ps:Array Value}
 (lk:K.lookup f=some ⟨oc,od,.func (PySem.W.fnOf "law" "law" (a75 (top 64)) (a71 (top 64)) (a03 (top 64)) .none kV doc pm an (.ref c) ct),osl⟩) (hcd:PySem.W.codeIn K (.ref c) "law" = true)
 (HT:CodeHd base c Tt) (HB:base.BuiltinsAt mg Tt) (HG:mainGlobals≠Tt) (tri:TriplesOk ps.toList) (cn:∀ lp∈[lPos lamH],codeAmong lp ps.toList=none)
 (T:Txt K mg) (KC:KCls K mg C) (BT:BadT K cT cV cS) (BV:BadV K cV)
 (DB:Def K mg "_law_begin" (top 34) ["_law_script"] fB fdB) (DP:Def K mg "_law_pick" (top 35) ["_law_d","_law_many"] fP fdP) (DW:Def K mg "_law_word" (top 39) ["_law_d"] fW fdW) (GW:FnOk P w K mg base CX0 3 fW fdW ["_law_d"] aq2) (DS:Def K mg "_law_same" (top 38) ["_law_found","_law_due"] fS fdS)
 (DKo:Def K mg "_law_kind_of" (top 60) ["_law_d"] fKo fdKo) (GKo:FnOk P w K mg base CX0 6 fKo fdKo ["_law_d"] spKo) (DNo:Def K mg "_law_names_of" (top 61) ["_law_d","_law_fields_here"] fNo fdNo) (GNo:FnOk P w K mg base CX0 4 fNo fdNo ["_law_d","_law_fields_here"] spNo)
 (DTe:Def K mg "_law_test" (top 54) ["_law_d","_law_names","_law_kinds"] fTe fdTe) (GTe:FnOk P w K mg base CX0 10 fTe fdTe ["_law_d","_law_names","_law_kinds"] (spTe K))
 (DBt:Def K mg "_law_bent_test" (top 58) ["_law_d","_law_test_here"] fBt fdBt) (GBt:FnOk P w K mg base CX0 9 fBt fdBt ["_law_d","_law_test_here"] (spBu K 5))
 (DTo:Def K mg "_law_test_ok" (top 57) ["_law_test_here"] fTo fdTo) (GTo:FnOk P w K mg base CX0 12 fTo fdTo ["_law_test_here"] (spTo K))
 (DNv:Def K mg "_law_near_values" (top 62) ANv fNv fdNv) (GNv:FnOk P w K mg base CX0 8 fNv fdNv ANv (spNv K)) (DBv:Def K mg "_law_bent_values" (top 47) ["_law_d","_law_fields_here","_law_values"] fBv fdBv) (GBv:FnOk P w K mg base CX0 3 fBv fdBv ["_law_d","_law_fields_here","_law_values"] (spBVs K))
 (DVw:Def K mg "_law_values_word" (top 48) ["_law_fields_here","_law_values"] fVw fdVw) (GVw:FnOk P w K mg base CX0 1 fVw fdVw ["_law_fields_here","_law_values"] (spVW K)) (DLp:Def K mg "_law_passes" (top 59) ALp fLp fdLp)
 (DHo:Def K mg "holds" (top 30) ["test","kind","values"] fHo fdHo) (GHo:FnOk P w K mg base (CX1 P w) 12 fHo fdHo ["test","kind","values"] (spHo K C cT cV)) (MkK:Mk K C fKI) (GKI:FnOk P w K mg base CX0 4 fKI fdKI ["self","name","fields"] (spInit C)) (bKI:Binds K fdKI ["self","name","fields"] [])
 (GA:FnOkS P w K mg base CX0 14 fA fdA ["_law_ask_here"] (spAsk P w K mg base 13 cV cS cM)) (hA:mg "_law_ask" = some (.ref fA)) (kA:keepIn K (.ref fA)=true) (bA:Binds K fdA ["_law_ask_here"] []) :
 FnOk P w K mg base CX0 15 f (PySem.W.fnOf "law" "law" (a75 (top 64)) (a71 (top 64)) (a03 (top 64)) .none kV doc pm an (.ref c) ct) ["_law_script"] (spLaw K Tt ps):=by
 have GB:FnOk P w K mg base CX0 1 fB fdB ["_law_script"] (spBegin K):=ok_begin DB.F T
 have GP:FnOk P w K mg base CX0 1 fP fdP ["_law_d","_law_many"] ac9:=ab5 DP.F T
 have GS:FnOk P w K mg base CX0 5 fS fdS ["_law_found","_law_due"] (spS K 5):=ok_same DS T 5
 have GLp:FnOk P w K mg base CX0 5 fLp fdLp ALp (spLp K 5):=ok_lp DLp T 5
 refine fn_of lk hcd ah6 (fun vs H Q E h=>?_) (fun A outer s H vs Q E hr h=>?_)
 ·obtain ⟨a,ns,rfl,_⟩:=h
  rfl
 ·obtain ⟨sa,ns,rfl,hS,hlen,hTb,k⟩:=h
  have hr1:Room 1 _:=hr.mono (by decide)
  have hr3:Room 3 _:=hr.mono (by decide)
  have hr4:Room 4 _:=hr.mono (by decide)
  have hr5:Room 5 _:=hr.mono (by decide)
  have hr6:Room 6 _:=hr.mono (by decide)
  have hr8:Room 8 _:=hr.mono (by decide)
  have hr9:Room 9 _:=hr.mono (by decide)
  have hr10:Room 10 _:=hr.mono (by decide)
  have hr12:Room 12 _:=hr.mono (by decide)
  have CT:CodeTab (cxOf CX0 P w K mg base NLaw "law" (a03 (top 64)) f (.ref c) A outer s H E) c Tt:=⟨rfl,HT,HB,HG⟩
  have h1:∀ q∈clL s.heap.objs.size,(PyProof.Rows.envOfC "law" (a03 (top 64)) s.heap.objs.size f (.ref c)).cells.lookup q.1=some q.2:=by
   intro q hq
   rcases List.mem_cons.mp hq with rfl|hq
   ·rfl
   ·rcases List.mem_cons.mp hq with rfl|hq
    ·rfl
    ·cases List.mem_singleton.mp hq
     rfl
  have h2:∀ q∈(ao8 lamH).names,(q.2=.cell∨q.2=.free)->q.1∈(clL s.heap.objs.size).map (·.1):=by
   have:∀ q∈(ao8 lamH).names,(q.2=.cell∨q.2=.free)->q.1∈(["_law_values","_law_test_here","_law_sort"]:List Str):=by decide +kernel
   exact this
  have h3:∀ x∈NL,(a03 (top 64)).names.lookup x=some .cell:=by decide +kernel
  refine ⟨_,(a05 (a79 (i:=1) ah6.nd rfl (Or.inl rfl) (a07 GB hr1 rfl DB.mg DB.F.kp DB.b .nil a74 (a00 (pv 0) a01)))
 (a05 (ae6 PassesOwn.leaving rfl (ab9 rfl T.range (a00 a04 a01)) (a82 (i:=2) ah6.nd rfl (Or.inl rfl)) (a05 (ps_asg (a07 GKo hr6 rfl DKo.mg DKo.F.kp DKo.b .nil a74 (a00 (pv 1) a01)) (al4 rfl (a91 (a82 (i:=3) ah6.nd rfl (Or.inl rfl)) (a91 (a82 (i:=4) ah6.nd rfl (Or.inl rfl)) ag7))))
 (a05 (a79 (i:=5) ah6.nd rfl (Or.inl rfl) (a07 GNo hr4 rfl DNo.mg DNo.F.kp DNo.b .nil a74 (a00 (pv 1) (a00 (pv 4) a01))))
 (a05 (a79 (i:=6) ah6.nd rfl (Or.inr rfl) (a07 GTe hr10 rfl DTe.mg DTe.F.kp DTe.b .nil a74 (a00 (pv 1) (a00 (pv 5) (a00 (a97 (a00 (pv 3) (a00 (pv 3) (a00 (a07 GW hr3 rfl DW.mg DW.F.kp DW.b .nil a74 (a00 (pv 1) a01)) a01)))) a01)))))
 (a05 (a84 (a67 a85 (a07 GP hr1 rfl DP.mg DP.F.kp DP.b .nil a74 (a00 (pv 1) (a00 a04 a01))) a04 (a72 _)) (a06 (a79 (i:=6) ah6.nd rfl (Or.inr rfl) (a07 GBt hr9 rfl DBt.mg DBt.F.kp DBt.b .nil a74 (a00 (pv 1) (a00 (pv 6) a01))))) a73)
 (a05 (a79 (i:=7) ah6.nd rfl (Or.inr rfl) (pe_make (E:=E0) MkK GKI hr5 rfl KC.mg bKI .nil a74 (a00 (pv 3) (a00 (pv 4) a01))))
 (a06 (ae6 PassesOwn.leaving rfl (ab9 rfl T.range (a00 a04 a01)) (a82 (i:=8) ah6.nd rfl (Or.inl rfl)) (a05 (a79 (i:=9) ah6.nd rfl (Or.inr rfl) (a07 GNv hr8 rfl DNv.mg DNv.F.kp DNv.b .nil a74 (a00 (pv 1) (a00 (pv 6) (a00 (pv 4) a01)))))
 (a05 (a84 (a67 a85 (a07 GP hr1 rfl DP.mg DP.F.kp DP.b .nil a74 (a00 (pv 1) (a00 a04 a01))) a04 (a72 _)) (a06 (a79 (i:=9) ah6.nd rfl (Or.inr rfl) (a07 GBv hr3 rfl DBv.mg DBv.F.kp DBv.b .nil a74 (a00 (pv 1) (a00 (pv 4) (a00 (pv 9) a01)))))) a73)
 (a05 (a79 (i:=10) ah6.nd rfl (Or.inl rfl) (a97 (a00 (a07 GVw hr1 rfl DVw.mg DVw.F.kp DVw.b .nil a74 (a00 (pv 4) (a00 (pv 9) a01))) (a00 ak7 a01))))
 (a05 (a84 (a67 a85 (a80 ac6 (pv 10) a04 (fun _ _=>rfl)) a65 (a72 _)) (a06 (a79 (i:=10) ah6.nd rfl (Or.inl rfl) (a97 (a00 a65 (a00 (ad9 (ac8 (a07 GTo hr12 rfl DTo.mg DTo.F.kp DTo.b .nil a74 (a00 (pv 6) a01))) (a07 GLp hr5 rfl DLp.mg DLp.F.kp DLp.b .nil a74 (a00 (pv 6) (a00 (pv 3) (a00 (pv 4) (a00 (pv 9) a01))))) ak7) a01))))) a73)
 (a05 (a84 (af6 (ac8 (a07 GTo hr12 rfl DTo.mg DTo.F.kp DTo.b .nil a74 (a00 (pv 6) a01)))) (a06 (a79 (i:=10) ah6.nd rfl (Or.inl rfl) (a97 (a00 a65 (a00 ak7 a01))))) a73)
 (a06 (a84 (af6 (ac8 (a07 GS hr5 rfl DS.mg DS.F.kp DS.b .nil a74 (a00 (pe_callS (E:=E0) (r:=rAskH K C qL (clL s.heap.objs.size) ((mg "__name__").getD .none)) GA hr (by rfl) hA kA bA a74 (fun pins σ H s' vs Q I h=>ask_H h1 (fun _=>rfl) h2 h3 rfl rfl rfl DHo GHo BT BV I h) (a00 (pe_lam CT rfl rfl) a01)) (a00 (pv 10) a01))))) (a06 aj2) a73)))))))))))))))
 (a06 (a69 ar5)))),?_⟩
  refine ⟨_,rfl,sa,ns,rfl,hS,hlen,fun p dc H0 D0 s0 _=>?_⟩
  have tb0:TabI H0 Tt qL [lPos lamH]:=⟨ps,s0 _ _ hTb,tri,fun lp m=>.inl (cn lp m)⟩
  refine ⟨5,rfl,by decide,by decide,ae2 (n:=5) (fun i σ H'=>(∃ u2 u3 u4 u5 u6 u7 u8 u9 u10,σ=[some (.ref sa),some (.ref p),u2,u3,u4,u5,u6,u7,u8,u9,u10])/\Dr H' p dc/\TabI H' Tt qL [lPos lamH]) ⟨⟨none,none,none,none,none,none,none,none,none,rfl⟩,D0,tb0⟩ ?_ ?_⟩
  ·rintro i σ H1 hi ⟨⟨u2,u3,u4,u5,u6,u7,u8,u9,u10,rfl⟩,D1,tb1⟩
   refine ⟨_,rfl,p,dc,rfl,D1,fun t a nm xs fs H2 ht hnm ha pf fl fo nd D2 b2=>?_⟩
   refine ⟨t,_,rfl,SqT.of ht,rfl,_,_,rfl,_,_,rfl,rfl,?_⟩
   have tb2:=tb1.but D1 b2
   refine ⟨_,rfl,_,rfl,p,dc,a,xs,fs,rfl,D2,ha,pf,fl,fo,fun ln ys H3 hln yne yl ynm D3 b3=>?_⟩
   have ha3:H3 a=some (.tup xs):=b3 _ _ ha (D2.ne ha (by intro _ z;cases z))
   have pf3:Paired (ad6 H3) xs fs:=aa9 pf fun b ys e=>b3 _ _ e (D2.ne e (by intro _ z;cases z))
   have tb3:=tb2.but D2 b3
   refine ⟨_,rfl,_,rfl,_,rfl,_,rfl,_,rfl,p,dc,rfl,D3,fun w1 H4 hw1 D4 b4=>⟨(show 3≤sizeLine by decide),fun lk hlk=>?_⟩⟩
   have s5:Same H4 (upd H4 lk (.lst [.str nm,.str nm,.str w1])):=Same.new hlk
   have hlk5:(upd H4 lk (.lst [.str nm,.str nm,.str w1])) lk=some (.lst ([nm,nm,w1].map V.str)):=a02
   generalize upd H4 lk (.lst [.str nm,.str nm,.str w1])=H5 at s5 hlk5 ⊢
   have D5:=D4.mono s5
   have b5:But p H3 H5:=b4.trans s5.but
   have hln5:H5 ln=some (.lst (ys.map V.str)):=b5 _ _ hln (D3.ne hln (by intro _ z;cases z))
   refine ⟨p,dc,ln,lk,ys,[nm,nm,w1],rfl,D5,SqL.of hln5,SqL.of hlk5,yne,by simp,by omega,by simp,ynm,(by intro y hy;simp at hy;rcases hy with rfl|rfl <;> assumption),fun x0 d0 H6 rx0 tx0 tt0 D6 b6=>?_⟩
   have b36:But p H3 H6:=b5.trans b6
   have ha6:H6 a=some (.tup xs):=b36 _ _ ha3 (D3.ne ha3 (by intro _ z;cases z))
   have pf6:Paired (ad6 H6) xs fs:=aa9 pf3 fun b ys e=>b36 _ _ e (D3.ne e (by intro _ z;cases z))
   have tb6:=tb3.but D3 b36
   clear b36 b6 hln5 hlk5 D5 s5 b5 b4 D4 tb3 pf3 ha3 D3 b3 tb2 D2 b2 tb1 D1 hlk hln ha pf ht tt0
   obtain ⟨f0,r0,rfl⟩:=aa4 tx0.td tx0.sh
   try dsimp only [af9]
   refine al3 (fun σ' H'=>∃ (q:Addr) (es:List PyData),σ'=[some (.ref sa),some (.ref p),some (.int (0+i)),some (.str nm),some (.ref a),some (.ref ln),some (.ref q),u7,u8,u9,u10]/\Rep K H' (.ref q) (.tuple es)/\Bd 6 (.tuple es)/\H' a=some (.tup xs)/\Paired (ad6 H') xs fs/\Dr H' p dc/\TabI H' Tt qL [lPos lamH]) ?nx1 fun N hN=>?st1
   case st1=>
    refine ⟨_,rfl,p,dc,_,rfl,D6,by decide,by decide,fun w H7 w0 w2 D7 b7=>⟨rfl,_,rfl,?_⟩⟩
    have rx7:=D6.rep b7 rx0
    have tb7:=tb6.but D6 b7
    have ha7:H7 a=some (.tup xs):=b7 _ _ ha6 (D6.ne ha6 (by intro _ z;cases z))
    have pf7:Paired (ad6 H7) xs fs:=aa9 pf6 fun b ys e=>b7 _ _ e (D6.ne e (by intro _ z;cases z))
    refine ite2 (fun _=>?_) (fun _=>?_)
    ·refine ⟨_,rfl,_,rfl,p,dc,x0,_,rfl,D7,rx7,tx0,by decide,fun y e H8 ry be D8 b8 tp=>?_⟩
     obtain ⟨es,rfl⟩:=tp
     have ha8:H8 a=some (.tup xs):=b8 _ _ ha7 (D7.ne ha7 (by intro _ z;cases z))
     have pf8:Paired (ad6 H8) xs fs:=aa9 pf7 fun b ys e=>b8 _ _ e (D7.ne e (by intro _ z;cases z))
     have tb8:=tb7.but D7 b8
     cases ry with
     |@tup q _ _ s1 t1=>exact hN _ _ ⟨q,es,rfl,.tup s1 t1,be,ha8,pf8,D8,tb8⟩
    ·have bd:Bd 6 (.tuple (.str f0::r0)):=⟨tx0.td,by have:=tx0.dp;omega⟩
     cases rx7 with
     |@tup q _ _ s1 t1=>exact hN _ _ ⟨q,_,rfl,.tup s1 t1,bd,ha7,pf7,D7,tb7⟩
   rintro σ' H7 ⟨q,es,rfl,rq7,bd,ha7,pf7,D7,tb7⟩
   have td:=bd.td
   have dpq:a99 (.tuple es)≤7:=Nat.le_trans bd.dp (by decide)
   clear tb6 pf6 ha6 D6 rx0 tx0
   refine ⟨_,rfl,_,rfl,fun o dx ho hdx ndx=>?_⟩
   have s8:Same H7 (upd (upd H7 dx (.own o)) o (.ins C dx [])):=fun b u e=>by
    rw [a68 (a70 e ho),a68 (a70 e hdx)];exact e
   refine ⟨o,dx,a,nm,xs,fs,rfl,a02,hnm,s8 _ _ ha7,aa9 pf7 fun b ys e=>s8 _ _ e,fl,fo,nd,fun H8 ka kp=>⟨rfl,?_⟩⟩
   have S8:Same H7 H8:=fun b u e=>kp b u (s8 _ _ e) (a70 e ho)
   have rq8:=rq7.same S8
   have D8:=D7.mono S8
   have tb8:=tb7.same S8
   clear kp s8 S8 rq7 D7 tb7 ha7 pf7 ho hdx ndx
   refine ⟨3,rfl,by decide,by decide,ae2 (n:=3) (fun j σ H'=>(∃ u8 u9 u10,σ=[some (.ref sa),some (.ref p),some (.int (0+i)),some (.str nm),some (.ref a),some (.ref ln),some (.ref q),some (.ref o),u8,u9,u10])/\Rep K H' (.ref q) (.tuple es)/\ab8 C H' o nm a fs/\Dr H' p dc/\TabI H' Tt qL [lPos lamH]) ⟨⟨_,_,_,rfl⟩,rq8,ka,D8,tb8⟩ ?_ ?_⟩
   ·clear rq8 ka D8 tb8
    rintro j σ H9 hj ⟨⟨u8,u9,u10,rfl⟩,rq9,ka9,D9,tb9⟩
    obtain ⟨xs1,ha9,pf9⟩:=ka9.tp
    refine ⟨_,rfl,_,rfl,_,rfl,p,dc,q,a,es,xs1,fs,rfl,D9,rq9,td,dpq,ha9,pf9,fl,fo,fun b zs H10 hb zl D10 b10 hbn=>?_⟩
    have rq10:=D9.rep b10 rq9
    have ka10:=ka9.but D9 b10
    have tb10:=tb9.but D9 b10
    clear b10 hbn tb9 D9 ka9 rq9 ha9 pf9
    try dsimp only [af9]
    refine al3 (fun σ' H'=>∃ (b:Addr) (zs:List Int),σ'=[some (.ref sa),some (.ref p),some (.int (0+i)),some (.str nm),some (.ref a),some (.ref ln),some (.ref q),some (.ref o),some (.int (0+j)),some (.ref b),u10]/\H' b=some (.tup (zs.map V.int))/\zs.length≤70/\Rep K H' (.ref q) (.tuple es)/\ab8 C H' o nm a fs/\Dr H' p dc/\TabI H' Tt qL [lPos lamH]) ?nx2 fun N hN=>?st2
    case st2=>
     refine ⟨_,rfl,p,dc,_,rfl,D10,by decide,by decide,fun w H11 w0 w1 D11 b11=>⟨rfl,_,rfl,?_⟩⟩
     have hb11:H11 b=some (.tup (zs.map V.int)):=b11 _ _ hb (D10.ne hb (by intro _ z;cases z))
     have rq11:=D10.rep b11 rq10
     have ka11:=ka10.but D10 b11
     have tb11:=tb10.but D10 b11
     refine ite2 (fun _=>?_) (fun _=>hN _ _ ⟨b,zs,rfl,hb11,by omega,rq11,ka11,D11,tb11⟩)
     exact ⟨_,rfl,_,rfl,_,rfl,p,dc,b,.ref a,zs,rfl,D11,hb11,by omega,fun b' ws H12 hb' wl D12 b12 _=>hN _ _ ⟨b',ws,rfl,hb',wl,D11.rep b12 rq11,ka11.but D11 b12,D12,tb11.but D11 b12⟩⟩
    rintro σ' H11 ⟨b1,zs1,rfl,hb11,zl1,rq11,ka11,D11,tb11⟩
    clear hb zl D10 rq10 ka10 tb10
    obtain ⟨xs2,ha11,pf11⟩:=ka11.tp
    have z2:2≤sizeLine:=by decide
    have dp8:a99 (.tuple es)≤8:=by omega
    refine ⟨_,rfl,_,rfl,a,b1,xs2,fs,zs1,rfl,ha11,pf11,hb11,by omega,by omega,z2,fun l hl=>?_⟩
    have s12:Same H11 (upd H11 l (.lst [.str (ag4 fs zs1),.non])):=Same.new hl
    have hl12:(upd H11 l (.lst [.str (ag4 fs zs1),.non])) l=some (.lst [.str (ag4 fs zs1),.non]):=a02
    generalize upd H11 l (.lst [.str (ag4 fs zs1),.non])=H12 at s12 hl12 ⊢
    have badn:ag4 fs zs1 = ""->badV fs zs1=none:=fun hw=>by
     unfold ag4 at hw
     cases hbd:badV fs zs1 with
     |none=>rfl
     | some n=>
       rw [hbd] at hw
       exact absurd hw (bvW_ne n)
    try dsimp only [af9]
    refine al3 (fun σ' H'=>∃ (l:Addr) (v:V),σ'=[some (.ref sa),some (.ref p),some (.int (0+i)),some (.str nm),some (.ref a),some (.ref ln),some (.ref q),some (.ref o),some (.int (0+j)),some (.ref b1),some (.ref l)]/\H' l=some (.lst [.str (ag4 fs zs1),v])/\(ad4 (.tuple es)=true->v=if ag4 fs zs1 = "" then .bl (passT nm fs zs1 (.tuple es)) else .non)/\Same H11 H') ?nx3 fun N hN=>?st3
    case st3=>
     refine ⟨_,rfl,l,_,_,_,rfl,rfl,SqL.of hl12,a09 (j:=0) rfl,rfl,_,rfl,?_⟩
     by_cases hw:ag4 fs zs1 = ""
     ·refine ifT (by rw [hw];decide +kernel) ?_
      refine ⟨_,rfl,.ref q,.tuple es,rfl,rq11.same s12,td,dp8,fun H13 s13=>⟨_,rfl,?_⟩⟩
      have S13:=s12.trans s13
      cases ht:ad4 (.tuple es) with
      |false=>exact ifF rfl ⟨z2,fun l2 hl2=>hN _ _ ⟨l2,.non,rfl,by rw [a02,hw],(fun h=>by rw [ht] at h;cases h),S13.trans (Same.new hl2)⟩⟩
      | true=>
        obtain ⟨sh,de,_⟩:=aq4 ht
        obtain ⟨f1,r1,e1⟩:=aa4 td sh
        injection e1 with e1
        subst e1
        refine ifT rfl ⟨_,rfl,_,rfl,_,rfl,_,rfl,q,a,b1,f1,nm,r1,xs2,fs,zs1,rfl,⟨rq11.same S13,td,sh,de,S13 _ _ ha11,aa9 pf11 fun b ys e=>S13 _ _ e,fl,S13 _ _ hb11,bad_len (badn hw)⟩,fun H14 s14=>⟨z2,fun l2 hl2=>hN _ _ ⟨l2,.bl (aa8 nm fs zs1 5 f1 r1),rfl,by rw [a02,hw],fun _=>by rw [if_pos hw];rfl,(S13.trans s14).trans (Same.new hl2)⟩⟩⟩
     ·exact ifF (af2 hw) (hN _ _ ⟨l,.non,rfl,hl12,fun _=>by rw [if_neg hw],s12⟩)
    rintro σ' H13 ⟨l1,v1,rfl,hl13,hv,s13⟩
    refine al3 (fun σ' H'=>∃ (l:Addr),σ'=[some (.ref sa),some (.ref p),some (.int (0+i)),some (.str nm),some (.ref a),some (.ref ln),some (.ref q),some (.ref o),some (.int (0+j)),some (.ref b1),some (.ref l)]/\H' l=some (.lst [.str (dueW (.tuple es) fs zs1),if dueW (.tuple es) fs zs1 = "" then .bl (passT nm fs zs1 (.tuple es)) else .non])/\Same H11 H') ?nx4 fun N hN=>?st4
    case st4=>
     refine ⟨_,rfl,.ref q,.tuple es,rfl,rq11.same s13,td,dp8,fun H14 s14=>⟨_,rfl,?_⟩⟩
     cases ht:ad4 (.tuple es) with
     | false=>
       have e:dueW (.tuple es) fs zs1 = "badtest":=by unfold dueW;rw [if_neg (by rw [ht];decide)]
       exact ifT rfl ⟨z2,fun l2 hl2=>hN _ _ ⟨l2,rfl,by rw [a02,e,if_neg (by decide +kernel)],(s13.trans s14).trans (Same.new hl2)⟩⟩
     | true=>
       have e:dueW (.tuple es) fs zs1=ag4 fs zs1:=by unfold dueW;rw [if_pos ht]
       exact ifF rfl (hN _ _ ⟨l1,rfl,by rw [s14 _ _ hl13,e,hv ht],s13.trans s14⟩)
    rintro σ' H14 ⟨l2,rfl,hl14,s14⟩
    have rq14:=rq11.same s14
    have ka14:=ka11.same s14
    have D14:=D11.mono s14
    have tb14:=tb11.same s14
    have hb14:=s14 _ _ hb11
    refine ⟨tb14.tab (List.mem_cons_self ..),fun c' H15 lm f' ctv hf'=>?_⟩
    have k15:=Lam.keeps (o:=lamO f' (kla_obj "<lambda>" qL (lParams lamH) (lBody lamH) (ao8 lamH) (clL s.heap.objs.size) ((mg "__name__").getD .none) c' ctv)) lm hf'
    have rq15:=Rep.keeps k15 rq14
    have ka15:=ab8.keeps k15 ka14
    have D15:=Dr.keeps D14 k15
    have hb15:=k15 _ _ hb14 (by intro _ z;cases z)
    have hl15:=k15 _ _ hl14 (by intro _ z;cases z)
    have tb15:=(tb14.lam lm).same (Same.new (o:=lamO f' (kla_obj "<lambda>" qL (lParams lamH) (lBody lamH) (ao8 lamH) (clL s.heap.objs.size) ((mg "__name__").getD .none) c' ctv)) hf')
    refine ⟨f',c',ctv,.ref q,.tuple es,o,a,b1,nm,fs,zs1,rfl,a02,Same.new hf' _ _ lm.code,rfl,rfl,rfl,rq15,td,ka15,fl,hb15,zl1,fun H16 s16 l3 hl3=>?_⟩
    have s17:=s16.trans (Same.new (o:=.lst [.str (dueW (.tuple es) fs zs1),if dueW (.tuple es) fs zs1 = "" then .bl (passT nm fs zs1 (.tuple es)) else .non]) hl3)
    have hl17:=s17 _ _ hl15
    obtain ⟨dv,hdv,dd,dm⟩:∃ dv,(∀ H',Rep K H' (if dueW (.tuple es) fs zs1 = "" then .bl (passT nm fs zs1 (.tuple es)) else .non) dv)/\a99 dv=0/\an9 dv=0:=by
     by_cases hw:dueW (.tuple es) fs zs1 = ""
     ·rw [if_pos hw];exact ⟨.bool (passT nm fs zs1 (.tuple es)),fun _=>.bl _,by simp [a99],by simp [an9]⟩
     ·rw [if_neg hw];exact ⟨.none,fun _=>.non,by simp [a99],by simp [an9]⟩
    refine ⟨_,rfl,.ref l3,.ref l2,.list [.str (dueW (.tuple es) fs zs1),dv],rfl,.lst (SqL.of a02) (.cons (.str _) (.cons (hdv _) .nil)),.lst (SqL.of hl17) (.cons (.str _) (.cons (hdv _) .nil)),by simp [a99,a95,dd],by simp [an9,an7,dm],fun H18 s18=>⟨true,rfl,ifF rfl ?_⟩⟩
    have S18:=s17.trans s18
    exact ⟨⟨_,_,_,rfl⟩,rq15.same S18,ka15.same S18,D15.mono S18,tb15.same S18⟩
   ·rintro σ H9 ⟨⟨u8,u9,u10,rfl⟩,rq9,ka9,D9,tb9⟩
    exact ⟨⟨_,_,_,_,_,_,_,_,_,rfl⟩,D9,tb9⟩
  ·rintro σ H1 _
   exact k _
end
def xbm (B:String):List Value:=[.type B,.type "Exception",.type "BaseException",.type "object"]
theorem rl_ve (self:Value):refuseLoop self "__setattr__" (xbm "ValueError")=pure ():=by kernel_rfl
theorem rl_le (self:Value):refuseLoop self "__setattr__" (xbm "LookupError")=pure ():=by kernel_rfl
def xcd (K:Frag) (C:Addr) (rs:List Addr) (bm:List Value):Bool:=match clsIn K C with
 |some cd=>cd.hasDict && (cd.mro == rs.map Value.ref++bm)
 |none=>false
theorem am5 {K:Frag} {C:Addr} {B n:String} {rs:List Addr} (h1:al1 K C B n=true) (h2:findIn K (.ref C) "__setattr__" = some (some (.builtin "object.__setattr__"))) (h3:xcd K C rs (xbm B)=true) (h4:keepIn K (.ref C)=true) (h5:typeIn K (.ref C)=some (.type "type"))
 (hr:∀ self,refuseLoop self "__setattr__" (xbm B)=pure ()):XCls K C B n:=by
 refine ⟨h1,h2,?_,h4,h5⟩
 unfold xcd at h3
 split at h3
 ·rename_i cd hc
  rw [Bool.and_eq_true,beq_iff_eq] at h3
  refine ⟨cd,rs,xbm B,hc,h3.1,h3.2,by simp [xbm],hr,?_⟩
  unfold xbm
  simp
 ·cases h3
theorem all_mk {l:PySem.W.OpenLaw} {w:World} {K:PySem.W.Frag} {h:Heap} {mg:Str->Option Value} {fa fLa Tt cc fB fP fO fW fWs fBd fF fS fVl fVw fBv fFr fIs fOd fNu fLe fTr fPa fDe fTe fLo fSo fTo fBt fLp fKo fNo fNv fLy fA fNm fNn fNf fIw fNb fLf fCp fIt fNt fHo fPs fPl tW tS qK fKI TdK d0K fPo fNe qS qV qM fSE TS qT fiT TdT fBq:Addr} (X:K.In h) (G:h.Ns mainGlobals mg) (hfa:mg "law" = some (.ref fa))
 {odLa anLa odcc odB anB odP anP odO anO odW anW odWs anWs odBd anBd odF anF odS anS odVl anVl odVw anVw odBv anBv odFr anFr odIs anIs odOd anOd odNu anNu odLe anLe odTr anTr odPa anPa odDe anDe odTe anTe odLo anLo odSo anSo odTo anTo odBt anBt odLp anLp odKo anKo odNo anNo odNv anNv odLy anLy odA anA odNm anNm odNn anNn odNf anNf odIw anIw odNb anNb odLf anLf odCp anCp odIt anIt odNt anNt odHo anHo odPs anPs odPl anPl odKI anKI odTK odPo anPo odNe anNe odSE anSE odTS odiT aniT odTT odBq anBq:Option Addr} {slLa slcc slB slP slO slW slWs slBd slF slS slVl slVw slBv slFr slIs slOd slNu slLe slTr slPa slDe slTe slLo slSo slTo slBt slLp slKo slNo slNv slLy slA slNm slNn slNf slIw slNb slLf slCp slIt slNt slHo slPs slPl slKI slTK slPo slNe slSE slTS sliT slTT slBq:Array (Option Value)} {t_MOST_LETTERS t_MOST_FIELDS t_LIMIT t_MOST_PARTS t_MOST_DEEP nTK nTS nTT:Nat} {ocLa kVLa dcLa pmLa ctLa w0 w1 w2 w3 w4 w5 w6 w7 w8 w9 w10 w12 w13 w14 w15 w16 w17 w18 occ ocB kVB dcB pmB cdB ctB ocP kVP dcP pmP cdP ctP ocO kVO dcO pmO cdO ctO ocW kVW dcW pmW cdW ctW ocWs kVWs dcWs pmWs cdWs ctWs ocBd kVBd dcBd pmBd cdBd ctBd ocF kVF dcF pmF cdF ctF ocS kVS dcS pmS cdS ctS ocVl kVVl dcVl pmVl cdVl ctVl ocVw kVVw dcVw pmVw cdVw ctVw ocBv kVBv dcBv pmBv cdBv ctBv ocFr kVFr dcFr pmFr cdFr ctFr ocIs kVIs dcIs pmIs cdIs ctIs ocOd kVOd dcOd pmOd cdOd ctOd ocNu kVNu dcNu pmNu cdNu ctNu ocLe kVLe dcLe pmLe cdLe ctLe ocTr kVTr dcTr pmTr cdTr ctTr ocPa kVPa dcPa pmPa cdPa ctPa ocDe kVDe dcDe pmDe cdDe ctDe ocTe kVTe dcTe pmTe cdTe ctTe ocLo kVLo dcLo pmLo cdLo ctLo ocSo kVSo dcSo pmSo cdSo ctSo ocTo kVTo dcTo pmTo cdTo ctTo ocBt kVBt dcBt pmBt cdBt ctBt ocLp kVLp dcLp pmLp cdLp ctLp ocKo kVKo dcKo pmKo cdKo ctKo ocNo kVNo dcNo pmNo cdNo ctNo ocNv kVNv dcNv pmNv cdNv ctNv ocLy kVLy dcLy pmLy cdLy ctLy ocA kVA dcA pmA cdA ctA ocNm kVNm dcNm pmNm cdNm ctNm ocNn kVNn dcNn pmNn cdNn ctNn ocNf kVNf dcNf pmNf cdNf ctNf ocIw kVIw dcIw pmIw cdIw ctIw ocNb kVNb dcNb pmNb cdNb ctNb ocLf kVLf dcLf pmLf cdLf ctLf ocCp kVCp dcCp pmCp cdCp ctCp ocIt kVIt dcIt pmIt cdIt ctIt ocNt kVNt dcNt pmNt cdNt ctNt ocHo kVHo dcHo pmHo cdHo ctHo ocPs kVPs dcPs pmPs cdPs ctPs ocPl kVPl dcPl pmPl cdPl ctPl ocKI kVKI dcKI pmKI cdKI ctKI ocTK ocPo kVPo dcPo pmPo cdPo ctPo ocNe kVNe dcNe pmNe cdNe ctNe ocSE kVSE dcSE pmSE cdSE ctSE dS1 dS2 ocTS ociT kViT dciT pmiT cdiT ctiT diT ocTT ocBq kVBq dcBq pmBq cdBq ctBq:Value}
 (aLa:PySem.W.nsIn K mainGlobals "law" = some (some (.ref fLa)))
 (lLa:K.lookup fLa=some ⟨ocLa,odLa,.func (PySem.W.fnOf "law" "law" (a75 (top 64)) (a71 (top 64)) (a03 (top 64)) .none kVLa dcLa pmLa anLa (.ref cc) ctLa),slLa⟩)
 (lcc:K.lookup cc=some ⟨occ,odcc,.fields #[w0,w1,w2,w3,w4,w5,w6,w7,w8,w9,w10,.ref Tt,w12,w13,w14,w15,w16,w17,w18],slcc⟩)
 (lTt:K.lookup Tt=none)
 (tb:L2.tabIn K cc=some Tt)
 (cLa:PySem.W.codeIn K (.ref cc) "law" = true)
 (aB:PySem.W.nsIn K mainGlobals "_law_begin" = some (some (.ref fB)))
 (lB:K.lookup fB=some ⟨ocB,odB,.func (PySem.W.fnOf "_law_begin" "_law_begin" (a75 (top 34)) (a71 (top 34)) (a03 (top 34)) .none kVB dcB pmB anB cdB ctB),slB⟩)
 (cB:PySem.W.codeIn K cdB "_law_begin" = true)
 (kB:PySem.W.keepIn K (.ref fB)=true)
 (aP:PySem.W.nsIn K mainGlobals "_law_pick" = some (some (.ref fP)))
 (lP:K.lookup fP=some ⟨ocP,odP,.func (PySem.W.fnOf "_law_pick" "_law_pick" (a75 (top 35)) (a71 (top 35)) (a03 (top 35)) .none kVP dcP pmP anP cdP ctP),slP⟩)
 (cP:PySem.W.codeIn K cdP "_law_pick" = true)
 (kP:PySem.W.keepIn K (.ref fP)=true)
 (aO:PySem.W.nsIn K mainGlobals "_law_of" = some (some (.ref fO)))
 (lO:K.lookup fO=some ⟨ocO,odO,.func (PySem.W.fnOf "_law_of" "_law_of" (a75 (top 36)) (a71 (top 36)) (a03 (top 36)) .none kVO dcO pmO anO cdO ctO),slO⟩)
 (cO:PySem.W.codeIn K cdO "_law_of" = true)
 (kO:PySem.W.keepIn K (.ref fO)=true)
 (aW:PySem.W.nsIn K mainGlobals "_law_word" = some (some (.ref fW)))
 (lW:K.lookup fW=some ⟨ocW,odW,.func (PySem.W.fnOf "_law_word" "_law_word" (a75 (top 39)) (a71 (top 39)) (a03 (top 39)) .none kVW dcW pmW anW cdW ctW),slW⟩)
 (cW:PySem.W.codeIn K cdW "_law_word" = true)
 (kW:PySem.W.keepIn K (.ref fW)=true)
 (aWs:PySem.W.nsIn K mainGlobals "_law_words" = some (some (.ref fWs)))
 (lWs:K.lookup fWs=some ⟨ocWs,odWs,.func (PySem.W.fnOf "_law_words" "_law_words" (a75 (top 40)) (a71 (top 40)) (a03 (top 40)) .none kVWs dcWs pmWs anWs cdWs ctWs),slWs⟩)
 (cWs:PySem.W.codeIn K cdWs "_law_words" = true)
 (kWs:PySem.W.keepIn K (.ref fWs)=true)
 (aBd:PySem.W.nsIn K mainGlobals "_law_bound" = some (some (.ref fBd)))
 (lBd:K.lookup fBd=some ⟨ocBd,odBd,.func (PySem.W.fnOf "_law_bound" "_law_bound" (a75 (top 41)) (a71 (top 41)) (a03 (top 41)) .none kVBd dcBd pmBd anBd cdBd ctBd),slBd⟩)
 (cBd:PySem.W.codeIn K cdBd "_law_bound" = true)
 (kBd:PySem.W.keepIn K (.ref fBd)=true)
 (aF:PySem.W.nsIn K mainGlobals "_law_fields" = some (some (.ref fF)))
 (lF:K.lookup fF=some ⟨ocF,odF,.func (PySem.W.fnOf "_law_fields" "_law_fields" (a75 (top 42)) (a71 (top 42)) (a03 (top 42)) .none kVF dcF pmF anF cdF ctF),slF⟩)
 (cF:PySem.W.codeIn K cdF "_law_fields" = true)
 (kF:PySem.W.keepIn K (.ref fF)=true)
 (aS:PySem.W.nsIn K mainGlobals "_law_same" = some (some (.ref fS)))
 (lS:K.lookup fS=some ⟨ocS,odS,.func (PySem.W.fnOf "_law_same" "_law_same" (a75 (top 38)) (a71 (top 38)) (a03 (top 38)) .none kVS dcS pmS anS cdS ctS),slS⟩)
 (cS:PySem.W.codeIn K cdS "_law_same" = true)
 (kS:PySem.W.keepIn K (.ref fS)=true)
 (aVl:PySem.W.nsIn K mainGlobals "_law_value" = some (some (.ref fVl)))
 (lVl:K.lookup fVl=some ⟨ocVl,odVl,.func (PySem.W.fnOf "_law_value" "_law_value" (a75 (top 43)) (a71 (top 43)) (a03 (top 43)) .none kVVl dcVl pmVl anVl cdVl ctVl),slVl⟩)
 (cVl:PySem.W.codeIn K cdVl "_law_value" = true)
 (kVl:PySem.W.keepIn K (.ref fVl)=true)
 (aVw:PySem.W.nsIn K mainGlobals "_law_values_word" = some (some (.ref fVw)))
 (lVw:K.lookup fVw=some ⟨ocVw,odVw,.func (PySem.W.fnOf "_law_values_word" "_law_values_word" (a75 (top 48)) (a71 (top 48)) (a03 (top 48)) .none kVVw dcVw pmVw anVw cdVw ctVw),slVw⟩)
 (cVw:PySem.W.codeIn K cdVw "_law_values_word" = true)
 (kVw:PySem.W.keepIn K (.ref fVw)=true)
 (aBv:PySem.W.nsIn K mainGlobals "_law_bent_values" = some (some (.ref fBv)))
 (lBv:K.lookup fBv=some ⟨ocBv,odBv,.func (PySem.W.fnOf "_law_bent_values" "_law_bent_values" (a75 (top 47)) (a71 (top 47)) (a03 (top 47)) .none kVBv dcBv pmBv anBv cdBv ctBv),slBv⟩)
 (cBv:PySem.W.codeIn K cdBv "_law_bent_values" = true)
 (kBv:PySem.W.keepIn K (.ref fBv)=true)
 (aFr:PySem.W.nsIn K mainGlobals "_law_far" = some (some (.ref fFr)))
 (lFr:K.lookup fFr=some ⟨ocFr,odFr,.func (PySem.W.fnOf "_law_far" "_law_far" (a75 (top 37)) (a71 (top 37)) (a03 (top 37)) .none kVFr dcFr pmFr anFr cdFr ctFr),slFr⟩)
 (cFr:PySem.W.codeIn K cdFr "_law_far" = true)
 (kFr:PySem.W.keepIn K (.ref fFr)=true)
 (aIs:PySem.W.nsIn K mainGlobals "_law_is_name" = some (some (.ref fIs)))
 (lIs:K.lookup fIs=some ⟨ocIs,odIs,.func (PySem.W.fnOf "_law_is_name" "_law_is_name" (a75 (top 44)) (a71 (top 44)) (a03 (top 44)) .none kVIs dcIs pmIs anIs cdIs ctIs),slIs⟩)
 (cIs:PySem.W.codeIn K cdIs "_law_is_name" = true)
 (kIs:PySem.W.keepIn K (.ref fIs)=true)
 (aOd:PySem.W.nsIn K mainGlobals "_law_odd_name" = some (some (.ref fOd)))
 (lOd:K.lookup fOd=some ⟨ocOd,odOd,.func (PySem.W.fnOf "_law_odd_name" "_law_odd_name" (a75 (top 46)) (a71 (top 46)) (a03 (top 46)) .none kVOd dcOd pmOd anOd cdOd ctOd),slOd⟩)
 (cOd:PySem.W.codeIn K cdOd "_law_odd_name" = true)
 (kOd:PySem.W.keepIn K (.ref fOd)=true)
 (aNu:PySem.W.nsIn K mainGlobals "_law_number" = some (some (.ref fNu)))
 (lNu:K.lookup fNu=some ⟨ocNu,odNu,.func (PySem.W.fnOf "_law_number" "_law_number" (a75 (top 49)) (a71 (top 49)) (a03 (top 49)) .none kVNu dcNu pmNu anNu cdNu ctNu),slNu⟩)
 (cNu:PySem.W.codeIn K cdNu "_law_number" = true)
 (kNu:PySem.W.keepIn K (.ref fNu)=true)
 (aLe:PySem.W.nsIn K mainGlobals "_law_leaf" = some (some (.ref fLe)))
 (lLe:K.lookup fLe=some ⟨ocLe,odLe,.func (PySem.W.fnOf "_law_leaf" "_law_leaf" (a75 (top 50)) (a71 (top 50)) (a03 (top 50)) .none kVLe dcLe pmLe anLe cdLe ctLe),slLe⟩)
 (cLe:PySem.W.codeIn K cdLe "_law_leaf" = true)
 (kLe:PySem.W.keepIn K (.ref fLe)=true)
 (aTr:PySem.W.nsIn K mainGlobals "_law_tree" = some (some (.ref fTr)))
 (lTr:K.lookup fTr=some ⟨ocTr,odTr,.func (PySem.W.fnOf "_law_tree" "_law_tree" (a75 (top 51)) (a71 (top 51)) (a03 (top 51)) .none kVTr dcTr pmTr anTr cdTr ctTr),slTr⟩)
 (cTr:PySem.W.codeIn K cdTr "_law_tree" = true)
 (kTr:PySem.W.keepIn K (.ref fTr)=true)
 (aPa:PySem.W.nsIn K mainGlobals "_law_parts" = some (some (.ref fPa)))
 (lPa:K.lookup fPa=some ⟨ocPa,odPa,.func (PySem.W.fnOf "_law_parts" "_law_parts" (a75 (top 52)) (a71 (top 52)) (a03 (top 52)) .none kVPa dcPa pmPa anPa cdPa ctPa),slPa⟩)
 (cPa:PySem.W.codeIn K cdPa "_law_parts" = true)
 (kPa:PySem.W.keepIn K (.ref fPa)=true)
 (aDe:PySem.W.nsIn K mainGlobals "_law_deep" = some (some (.ref fDe)))
 (lDe:K.lookup fDe=some ⟨ocDe,odDe,.func (PySem.W.fnOf "_law_deep" "_law_deep" (a75 (top 53)) (a71 (top 53)) (a03 (top 53)) .none kVDe dcDe pmDe anDe cdDe ctDe),slDe⟩)
 (cDe:PySem.W.codeIn K cdDe "_law_deep" = true)
 (kDe:PySem.W.keepIn K (.ref fDe)=true)
 (aTe:PySem.W.nsIn K mainGlobals "_law_test" = some (some (.ref fTe)))
 (lTe:K.lookup fTe=some ⟨ocTe,odTe,.func (PySem.W.fnOf "_law_test" "_law_test" (a75 (top 54)) (a71 (top 54)) (a03 (top 54)) .none kVTe dcTe pmTe anTe cdTe ctTe),slTe⟩)
 (cTe:PySem.W.codeIn K cdTe "_law_test" = true)
 (kTe:PySem.W.keepIn K (.ref fTe)=true)
 (aLo:PySem.W.nsIn K mainGlobals "_law_leaf_ok" = some (some (.ref fLo)))
 (lLo:K.lookup fLo=some ⟨ocLo,odLo,.func (PySem.W.fnOf "_law_leaf_ok" "_law_leaf_ok" (a75 (top 55)) (a71 (top 55)) (a03 (top 55)) .none kVLo dcLo pmLo anLo cdLo ctLo),slLo⟩)
 (cLo:PySem.W.codeIn K cdLo "_law_leaf_ok" = true)
 (kLo:PySem.W.keepIn K (.ref fLo)=true)
 (aSo:PySem.W.nsIn K mainGlobals "_law_shape_ok" = some (some (.ref fSo)))
 (lSo:K.lookup fSo=some ⟨ocSo,odSo,.func (PySem.W.fnOf "_law_shape_ok" "_law_shape_ok" (a75 (top 56)) (a71 (top 56)) (a03 (top 56)) .none kVSo dcSo pmSo anSo cdSo ctSo),slSo⟩)
 (cSo:PySem.W.codeIn K cdSo "_law_shape_ok" = true)
 (kSo:PySem.W.keepIn K (.ref fSo)=true)
 (aTo:PySem.W.nsIn K mainGlobals "_law_test_ok" = some (some (.ref fTo)))
 (lTo:K.lookup fTo=some ⟨ocTo,odTo,.func (PySem.W.fnOf "_law_test_ok" "_law_test_ok" (a75 (top 57)) (a71 (top 57)) (a03 (top 57)) .none kVTo dcTo pmTo anTo cdTo ctTo),slTo⟩)
 (cTo:PySem.W.codeIn K cdTo "_law_test_ok" = true)
 (kTo:PySem.W.keepIn K (.ref fTo)=true)
 (aBt:PySem.W.nsIn K mainGlobals "_law_bent_test" = some (some (.ref fBt)))
 (lBt:K.lookup fBt=some ⟨ocBt,odBt,.func (PySem.W.fnOf "_law_bent_test" "_law_bent_test" (a75 (top 58)) (a71 (top 58)) (a03 (top 58)) .none kVBt dcBt pmBt anBt cdBt ctBt),slBt⟩)
 (cBt:PySem.W.codeIn K cdBt "_law_bent_test" = true)
 (kBt:PySem.W.keepIn K (.ref fBt)=true)
 (aLp:PySem.W.nsIn K mainGlobals "_law_passes" = some (some (.ref fLp)))
 (lLp:K.lookup fLp=some ⟨ocLp,odLp,.func (PySem.W.fnOf "_law_passes" "_law_passes" (a75 (top 59)) (a71 (top 59)) (a03 (top 59)) .none kVLp dcLp pmLp anLp cdLp ctLp),slLp⟩)
 (cLp:PySem.W.codeIn K cdLp "_law_passes" = true)
 (kLp:PySem.W.keepIn K (.ref fLp)=true)
 (aKo:PySem.W.nsIn K mainGlobals "_law_kind_of" = some (some (.ref fKo)))
 (lKo:K.lookup fKo=some ⟨ocKo,odKo,.func (PySem.W.fnOf "_law_kind_of" "_law_kind_of" (a75 (top 60)) (a71 (top 60)) (a03 (top 60)) .none kVKo dcKo pmKo anKo cdKo ctKo),slKo⟩)
 (cKo:PySem.W.codeIn K cdKo "_law_kind_of" = true)
 (kKo:PySem.W.keepIn K (.ref fKo)=true)
 (aNo:PySem.W.nsIn K mainGlobals "_law_names_of" = some (some (.ref fNo)))
 (lNo:K.lookup fNo=some ⟨ocNo,odNo,.func (PySem.W.fnOf "_law_names_of" "_law_names_of" (a75 (top 61)) (a71 (top 61)) (a03 (top 61)) .none kVNo dcNo pmNo anNo cdNo ctNo),slNo⟩)
 (cNo:PySem.W.codeIn K cdNo "_law_names_of" = true)
 (kNo:PySem.W.keepIn K (.ref fNo)=true)
 (aNv:PySem.W.nsIn K mainGlobals "_law_near_values" = some (some (.ref fNv)))
 (lNv:K.lookup fNv=some ⟨ocNv,odNv,.func (PySem.W.fnOf "_law_near_values" "_law_near_values" (a75 (top 62)) (a71 (top 62)) (a03 (top 62)) .none kVNv dcNv pmNv anNv cdNv ctNv),slNv⟩)
 (cNv:PySem.W.codeIn K cdNv "_law_near_values" = true)
 (kNv:PySem.W.keepIn K (.ref fNv)=true)
 (aLy:PySem.W.nsIn K mainGlobals "_law_leaves_any" = some (some (.ref fLy)))
 (lLy:K.lookup fLy=some ⟨ocLy,odLy,.func (PySem.W.fnOf "_law_leaves_any" "_law_leaves_any" (a75 (top 63)) (a71 (top 63)) (a03 (top 63)) .none kVLy dcLy pmLy anLy cdLy ctLy),slLy⟩)
 (cLy:PySem.W.codeIn K cdLy "_law_leaves_any" = true)
 (kLy:PySem.W.keepIn K (.ref fLy)=true)
 (aA:PySem.W.nsIn K mainGlobals "_law_ask" = some (some (.ref fA)))
 (lA:K.lookup fA=some ⟨ocA,odA,.func (PySem.W.fnOf "_law_ask" "_law_ask" (a75 (top 45)) (a71 (top 45)) (a03 (top 45)) .none kVA dcA pmA anA cdA ctA),slA⟩)
 (cA:PySem.W.codeIn K cdA "_law_ask" = true)
 (kA:PySem.W.keepIn K (.ref fA)=true)
 (aNm:PySem.W.nsIn K mainGlobals "is_name" = some (some (.ref fNm)))
 (lNm:K.lookup fNm=some ⟨ocNm,odNm,.func (PySem.W.fnOf "is_name" "is_name" (a75 (top 14)) (a71 (top 14)) (a03 (top 14)) .none kVNm dcNm pmNm anNm cdNm ctNm),slNm⟩)
 (cNm:PySem.W.codeIn K cdNm "is_name" = true)
 (kNm:PySem.W.keepIn K (.ref fNm)=true)
 (aNn:PySem.W.nsIn K mainGlobals "need_name" = some (some (.ref fNn)))
 (lNn:K.lookup fNn=some ⟨ocNn,odNn,.func (PySem.W.fnOf "need_name" "need_name" (a75 (top 15)) (a71 (top 15)) (a03 (top 15)) .none kVNn dcNn pmNn anNn cdNn ctNn),slNn⟩)
 (cNn:PySem.W.codeIn K cdNn "need_name" = true)
 (kNn:PySem.W.keepIn K (.ref fNn)=true)
 (aNf:PySem.W.nsIn K mainGlobals "need_fields" = some (some (.ref fNf)))
 (lNf:K.lookup fNf=some ⟨ocNf,odNf,.func (PySem.W.fnOf "need_fields" "need_fields" (a75 (top 16)) (a71 (top 16)) (a03 (top 16)) .none kVNf dcNf pmNf anNf cdNf ctNf),slNf⟩)
 (cNf:PySem.W.codeIn K cdNf "need_fields" = true)
 (kNf:PySem.W.keepIn K (.ref fNf)=true)
 (aIw:PySem.W.nsIn K mainGlobals "is_word" = some (some (.ref fIw)))
 (lIw:K.lookup fIw=some ⟨ocIw,odIw,.func (PySem.W.fnOf "is_word" "is_word" (a75 (top 24)) (a71 (top 24)) (a03 (top 24)) .none kVIw dcIw pmIw anIw cdIw ctIw),slIw⟩)
 (cIw:PySem.W.codeIn K cdIw "is_word" = true)
 (kIw:PySem.W.keepIn K (.ref fIw)=true)
 (aNb:PySem.W.nsIn K mainGlobals "is_number" = some (some (.ref fNb)))
 (lNb:K.lookup fNb=some ⟨ocNb,odNb,.func (PySem.W.fnOf "is_number" "is_number" (a75 (top 25)) (a71 (top 25)) (a03 (top 25)) .none kVNb dcNb pmNb anNb cdNb ctNb),slNb⟩)
 (cNb:PySem.W.codeIn K cdNb "is_number" = true)
 (kNb:PySem.W.keepIn K (.ref fNb)=true)
 (aLf:PySem.W.nsIn K mainGlobals "is_leaf" = some (some (.ref fLf)))
 (lLf:K.lookup fLf=some ⟨ocLf,odLf,.func (PySem.W.fnOf "is_leaf" "is_leaf" (a75 (top 26)) (a71 (top 26)) (a03 (top 26)) .none kVLf dcLf pmLf anLf cdLf ctLf),slLf⟩)
 (cLf:PySem.W.codeIn K cdLf "is_leaf" = true)
 (kLf:PySem.W.keepIn K (.ref fLf)=true)
 (aCp:PySem.W.nsIn K mainGlobals "count_parts" = some (some (.ref fCp)))
 (lCp:K.lookup fCp=some ⟨ocCp,odCp,.func (PySem.W.fnOf "count_parts" "count_parts" (a75 (top 27)) (a71 (top 27)) (a03 (top 27)) .none kVCp dcCp pmCp anCp cdCp ctCp),slCp⟩)
 (cCp:PySem.W.codeIn K cdCp "count_parts" = true)
 (kCp:PySem.W.keepIn K (.ref fCp)=true)
 (aIt:PySem.W.nsIn K mainGlobals "is_test" = some (some (.ref fIt)))
 (lIt:K.lookup fIt=some ⟨ocIt,odIt,.func (PySem.W.fnOf "is_test" "is_test" (a75 (top 28)) (a71 (top 28)) (a03 (top 28)) .none kVIt dcIt pmIt anIt cdIt ctIt),slIt⟩)
 (cIt:PySem.W.codeIn K cdIt "is_test" = true)
 (kIt:PySem.W.keepIn K (.ref fIt)=true)
 (aNt:PySem.W.nsIn K mainGlobals "need_test" = some (some (.ref fNt)))
 (lNt:K.lookup fNt=some ⟨ocNt,odNt,.func (PySem.W.fnOf "need_test" "need_test" (a75 (top 29)) (a71 (top 29)) (a03 (top 29)) .none kVNt dcNt pmNt anNt cdNt ctNt),slNt⟩)
 (cNt:PySem.W.codeIn K cdNt "need_test" = true)
 (kNt:PySem.W.keepIn K (.ref fNt)=true)
 (aHo:PySem.W.nsIn K mainGlobals "holds" = some (some (.ref fHo)))
 (lHo:K.lookup fHo=some ⟨ocHo,odHo,.func (PySem.W.fnOf "holds" "holds" (a75 (top 30)) (a71 (top 30)) (a03 (top 30)) .none kVHo dcHo pmHo anHo cdHo ctHo),slHo⟩)
 (cHo:PySem.W.codeIn K cdHo "holds" = true)
 (kHo:PySem.W.keepIn K (.ref fHo)=true)
 (aPs:PySem.W.nsIn K mainGlobals "passes" = some (some (.ref fPs)))
 (lPs:K.lookup fPs=some ⟨ocPs,odPs,.func (PySem.W.fnOf "passes" "passes" (a75 (top 31)) (a71 (top 31)) (a03 (top 31)) .none kVPs dcPs pmPs anPs cdPs ctPs),slPs⟩)
 (cPs:PySem.W.codeIn K cdPs "passes" = true)
 (kPs:PySem.W.keepIn K (.ref fPs)=true)
 (aPl:PySem.W.nsIn K mainGlobals "passes_leaf" = some (some (.ref fPl)))
 (lPl:K.lookup fPl=some ⟨ocPl,odPl,.func (PySem.W.fnOf "passes_leaf" "passes_leaf" (a75 (top 32)) (a71 (top 32)) (a03 (top 32)) .none kVPl dcPl pmPl anPl cdPl ctPl),slPl⟩)
 (cPl:PySem.W.codeIn K cdPl "passes_leaf" = true)
 (kPl:PySem.W.keepIn K (.ref fPl)=true)
 (z_len:PySem.W.nsIn K mainGlobals "len" = some none)
 (z_range:PySem.W.nsIn K mainGlobals "range" = some none)
 (z_list:PySem.W.nsIn K mainGlobals "list" = some none)
 (z_tuple:PySem.W.nsIn K mainGlobals "tuple" = some none)
 (z_str:PySem.W.nsIn K mainGlobals "str" = some none)
 (z_bool:PySem.W.nsIn K mainGlobals "bool" = some none)
 (z_int:PySem.W.nsIn K mainGlobals "int" = some none)
 (z_min:PySem.W.nsIn K mainGlobals "min" = some none)
 (z_repr:PySem.W.nsIn K mainGlobals "repr" = some none)
 (z_all:PySem.W.nsIn K mainGlobals "all" = some none)
 (z_any:PySem.W.nsIn K mainGlobals "any" = some none)
 (z_isinstance:PySem.W.nsIn K mainGlobals "isinstance" = some none)
 (z_sum:PySem.W.nsIn K mainGlobals "sum" = some none)
 (z_max:PySem.W.nsIn K mainGlobals "max" = some none)
 (z_ValueError:PySem.W.nsIn K mainGlobals "ValueError" = some none)
 (z_enumerate:PySem.W.nsIn K mainGlobals "enumerate" = some none)
 (z_zip:PySem.W.nsIn K mainGlobals "zip" = some none)
 (i_MOST_LETTERS:PySem.W.nsIn K mainGlobals "MOST_LETTERS" = some (some (.int 8 t_MOST_LETTERS)))
 (i_MOST_FIELDS:PySem.W.nsIn K mainGlobals "MOST_FIELDS" = some (some (.int 4 t_MOST_FIELDS)))
 (i_LIMIT:PySem.W.nsIn K mainGlobals "LIMIT" = some (some (.int 999999 t_LIMIT)))
 (i_MOST_PARTS:PySem.W.nsIn K mainGlobals "MOST_PARTS" = some (some (.int 15 t_MOST_PARTS)))
 (i_MOST_DEEP:PySem.W.nsIn K mainGlobals "MOST_DEEP" = some (some (.int 5 t_MOST_DEEP)))
 (a_tW:PySem.W.nsIn K mainGlobals "WITHIN" = some (some (.ref tW)))
 (ktW:PyProof.Rows.KTD.tabLook PyProof.Rows.KTD.flatLooks (fun b=>K.lookup b) tW dW=true)
 (a_tS:PySem.W.nsIn K mainGlobals "SIGN_OF" = some (some (.ref tS)))
 (ktS:PyProof.Rows.KTD.tabLook PyProof.Rows.KTD.flatLooks (fun b=>K.lookup b) tS dS=true)
 (a_qK:PySem.W.nsIn K mainGlobals "Kind" = some (some (.ref qK)))
 (pgK:PySem.W.plainGet K qK Str.empty=true)
 (hdK:PySem.W.hasDictIn K qK=true)
 (poK:PySem.W.plainOver K qK=true)
 (saK:PySem.W.findIn K (.ref qK) "__setattr__" = some (some (.builtin "object.__setattr__")))
 (mkK:PySem.W.makesIn K qK=true)
 (kcK:PySem.W.keepIn K (.ref qK)=true)
 (nK_name:PySem.W.findIn K (.ref qK) "name" = some none)
 (nK_fields:PySem.W.findIn K (.ref qK) "fields" = some none)
 (aKI:PySem.W.findIn K (.ref qK) "__init__" = some (some (.ref fKI)))
 (lKI:K.lookup fKI=some ⟨ocKI,odKI,.func (PySem.W.fnOf "__init__" "Kind.__init__" (a75 (kM 0)) (a71 (kM 0)) (a03 (kM 0)) (.ref TdK) kVKI dcKI pmKI anKI cdKI ctKI),slKI⟩)
 (cKI:PySem.W.codeIn K cdKI "Kind.__init__" = true)
 (kKI:PySem.W.keepIn K (.ref fKI)=true)
 (iKI:PySem.W.isFn K (.ref fKI)=true)
 (lTK:K.lookup TdK=some ⟨ocTK,odTK,.seq #[.ref d0K] nTK,slTK⟩)
 (aPo:PySem.W.findIn K (.ref qK) "place_of" = some (some (.ref fPo)))
 (iPo:PySem.W.isFn K (.ref fPo)=true)
 (lPo:K.lookup fPo=some ⟨ocPo,odPo,.func (PySem.W.fnOf "place_of" "Kind.place_of" (a75 (kM 3)) (a71 (kM 3)) (a03 (kM 3)) .none kVPo dcPo pmPo anPo cdPo ctPo),slPo⟩)
 (cPo:PySem.W.codeIn K cdPo "Kind.place_of" = true)
 (kPo:PySem.W.keepIn K (.ref fPo)=true)
 (aNe:PySem.W.findIn K (.ref qK) "need" = some (some (.ref fNe)))
 (iNe:PySem.W.isFn K (.ref fNe)=true)
 (lNe:K.lookup fNe=some ⟨ocNe,odNe,.func (PySem.W.fnOf "need" "Kind.need" (a75 (kM 4)) (a71 (kM 4)) (a03 (kM 4)) .none kVNe dcNe pmNe anNe cdNe ctNe),slNe⟩)
 (cNe:PySem.W.codeIn K cdNe "Kind.need" = true)
 (kNe:PySem.W.keepIn K (.ref fNe)=true)
 (a_qS:PySem.W.nsIn K mainGlobals "ScribeError" = some (some (.ref qS)))
 (a_qV:PySem.W.nsIn K mainGlobals "BadValue" = some (some (.ref qV)))
 (a_qM:PySem.W.nsIn K mainGlobals "Missing" = some (some (.ref qM)))
 (x1S:al1 K qS "ValueError" "ValueError.__new__" = true)
 (x2S:PySem.W.findIn K (.ref qS) "__setattr__" = some (some (.builtin "object.__setattr__")))
 (x3S:xcd K qS [qS] (xbm "ValueError")=true)
 (x4S:PySem.W.keepIn K (.ref qS)=true)
 (x5S:PySem.W.typeIn K (.ref qS)=some (.type "type"))
 (x1V:al1 K qV "ValueError" "ValueError.__new__" = true)
 (x2V:PySem.W.findIn K (.ref qV) "__setattr__" = some (some (.builtin "object.__setattr__")))
 (x3V:xcd K qV [qV,qS] (xbm "ValueError")=true)
 (x4V:PySem.W.keepIn K (.ref qV)=true)
 (x5V:PySem.W.typeIn K (.ref qV)=some (.type "type"))
 (x1M:al1 K qM "LookupError" "LookupError.__new__" = true)
 (x2M:PySem.W.findIn K (.ref qM) "__setattr__" = some (some (.builtin "object.__setattr__")))
 (x3M:xcd K qM [qM] (xbm "LookupError")=true)
 (x4M:PySem.W.keepIn K (.ref qM)=true)
 (x5M:PySem.W.typeIn K (.ref qM)=some (.type "type"))
 (aSE:PySem.W.findIn K (.ref qS) "__init__" = some (some (.ref fSE)))
 (lSE:K.lookup fSE=some ⟨ocSE,odSE,.func (PySem.W.fnOf "__init__" "ScribeError.__init__" (a75 sSE) (a71 sSE) (a03 sSE) (.ref TS) kVSE dcSE pmSE anSE cdSE ctSE),slSE⟩)
 (cSE:PySem.W.codeIn K cdSE "ScribeError.__init__" = true)
 (kSE:PySem.W.keepIn K (.ref fSE)=true)
 (lTS:K.lookup TS=some ⟨ocTS,odTS,.seq #[dS1,dS2] nTS,slTS⟩)
 (fc:PySem.W.findCls K (.type "ValueError") (.type "type") "__init__" = some (.val (.builtin "ValueError.__init__")))
 (sg:PySem.W.specialIn K (.ref qS) "__getattribute__" = some (some (.builtin "type.__getattribute__")))
 (rd1:PySem.W.readsIn K qS (.type "type")=true)
 (rd2:PySem.W.findCls K (.ref qS) (.type "type") "__init__" = some (.val (.ref fSE)))
 (a_qT:PySem.W.nsIn K mainGlobals "BadTest" = some (some (.ref qT)))
 (x1T:al1 K qT "ValueError" "ValueError.__new__" = true)
 (x2T:PySem.W.findIn K (.ref qT) "__setattr__" = some (some (.builtin "object.__setattr__")))
 (x3T:xcd K qT [qT,qS] (xbm "ValueError")=true)
 (x4T:PySem.W.keepIn K (.ref qT)=true)
 (x5T:PySem.W.typeIn K (.ref qT)=some (.type "type"))
 (tkT:PySem.W.takerIn K qT "word" = some none)
 (aiT:PySem.W.findIn K (.ref qT) "__init__" = some (some (.ref fiT)))
 (liT:K.lookup fiT=some ⟨ociT,odiT,.func (PySem.W.fnOf "__init__" "BadTest.__init__" (a75 ah3) (a71 ah3) (a03 ah3) (.ref TdT) kViT dciT pmiT aniT cdiT ctiT),sliT⟩)
 (ciT:PySem.W.codeIn K cdiT "BadTest.__init__" = true)
 (kiT:PySem.W.keepIn K (.ref fiT)=true)
 (biT:PySem.W.findIn K (.ref qT) "__init__" = some (some (.ref fiT)))
 (niT:PySem.W.isFn K (.ref fiT)=true)
 (lTT:K.lookup TdT=some ⟨ocTT,odTT,.seq #[diT] nTT,slTT⟩)
 (mvT:PySem.W.mroIn K qT (.ref qV)=some false)
 (msT:PySem.W.mroIn K qT (.ref qS)=some true)
 (g1T:PySem.W.findIn K (.ref qT) "__getattribute__" = some (some (.builtin "BaseException.__getattribute__")))
 (g2T:PySem.W.findIn K (.ref qT) "__getattr__" = some none)
 (g3T:PySem.W.hasDictIn K qT=true)
 (g4T:PySem.W.findIn K (.ref qT) "word" = some none)
 (g5T:PySem.W.mroIn K qT (.type "BaseException")=some true)
 (aBq:PySem.W.findIn K (.ref qV) "__init__" = some (some (.ref fBq)))
 (lBq:K.lookup fBq=some ⟨ocBq,odBq,.func (PySem.W.fnOf "__init__" "BadValue.__init__" (a75 sBV) (a71 sBV) (a03 sBV) .none kVBq dcBq pmBq anBq cdBq ctBq),slBq⟩)
 (cBq:PySem.W.codeIn K cdBq "BadValue.__init__" = true)
 (kBq:PySem.W.keepIn K (.ref fBq)=true)
 (nBq:PySem.W.isFn K (.ref fBq)=true)
 (tw:PySem.W.takerIn K qV "word" = some none)
 (ta:PySem.W.takerIn K qV "at" = some none)
 (mv:PySem.W.mroIn K qV (.ref qV)=some true)
 (g1:PySem.W.findIn K (.ref qV) "__getattribute__" = some (some (.builtin "BaseException.__getattribute__")))
 (g2:PySem.W.findIn K (.ref qV) "__getattr__" = some none)
 (g3:PySem.W.hasDictIn K qV=true)
 (g4:PySem.W.findIn K (.ref qV) "at" = some none)
 (g5:PySem.W.mroIn K qV (.type "BaseException")=some true) :
 ∃ (fd:FuncData) (sp:Sp),(∀ (s:Shared) (u:Value),BindsTo s fd ⟨[u],[]⟩ [("_law_script",u)])/\(∀ T∈[Tt],K.lookup T=none/\∃ c,L2.tabIn K c=some T)/\
  (∀ (H:Hp) (a:Addr) (ns:List Int),ns.length≤63->(∀ T∈[Tt],H T=some (.tbl #[]))->SqL K H a (ns.map V.int)->sp [.ref a] H (fun v _=>v=.bl true) fun _ _ _=>False)/\
  ∀ base:Heap,K.In base->base.Ns mainGlobals mg->(∀ T∈[Tt],base.BuiltinsAt mg T/\mainGlobals≠T)->FnOk l.prog w K mg base CX0 15 fa fd ["_law_script"] sp:=by
 have e:=hfa.symm.trans (PySem.W.mg_of X G aLa)
 cases e
 have T:Txt K mg:=⟨PySem.W.mg_none_of X G z_len,PySem.W.mg_none_of X G z_range,PySem.W.mg_none_of X G z_list,PySem.W.mg_none_of X G z_tuple,PySem.W.mg_none_of X G z_str,PySem.W.mg_none_of X G z_bool,PySem.W.mg_none_of X G z_int,PySem.W.mg_none_of X G z_min,PySem.W.mg_none_of X G z_repr,PySem.W.mg_none_of X G z_all,PySem.W.mg_none_of X G z_any,PySem.W.mg_none_of X G z_isinstance⟩
 have TE:TxtE K mg:=⟨PySem.W.mg_none_of X G z_ValueError,fc⟩
 have FB:=a83 (st:=top 34) lB cB kB
 have bB:=FB.binds (ps:=["_law_script"]) fun _ _ _ _ _ _ us hl=>by obtain ⟨_,rfl⟩:=len1 hl;rfl
 have FP:=a83 (st:=top 35) lP cP kP
 have bP:=FP.binds (ps:=["_law_d","_law_many"]) fun _ _ _ _ _ _ us hl=>by obtain ⟨_,_,rfl⟩:=len2 hl;rfl
 have FO:=a83 (st:=top 36) lO cO kO
 have bO:=FO.binds (ps:=["_law_d","_law_things"]) fun _ _ _ _ _ _ us hl=>by obtain ⟨_,_,rfl⟩:=len2 hl;rfl
 have FW:=a83 (st:=top 39) lW cW kW
 have bW:=FW.binds (ps:=["_law_d"]) fun _ _ _ _ _ _ us hl=>by obtain ⟨_,rfl⟩:=len1 hl;rfl
 have FWs:=a83 (st:=top 40) lWs cWs kWs
 have bWs:=FWs.binds (ps:=["_law_d","_law_many"]) fun _ _ _ _ _ _ us hl=>by obtain ⟨_,_,rfl⟩:=len2 hl;rfl
 have FBd:=a83 (st:=top 41) lBd cBd kBd
 have bBd:=FBd.binds (ps:=["_law_d"]) fun _ _ _ _ _ _ us hl=>by obtain ⟨_,rfl⟩:=len1 hl;rfl
 have FF:=a83 (st:=top 42) lF cF kF
 have bF:=FF.binds (ps:=["_law_d","_law_many"]) fun _ _ _ _ _ _ us hl=>by obtain ⟨_,_,rfl⟩:=len2 hl;rfl
 have FS:=a83 (st:=top 38) lS cS kS
 have bS:=FS.binds (ps:=["_law_found","_law_due"]) fun _ _ _ _ _ _ us hl=>by obtain ⟨_,_,rfl⟩:=len2 hl;rfl
 have FVl:=a83 (st:=top 43) lVl cVl kVl
 have bVl:=FVl.binds (ps:=["_law_d","_law_field"]) fun _ _ _ _ _ _ us hl=>by obtain ⟨_,_,rfl⟩:=len2 hl;rfl
 have FVw:=a83 (st:=top 48) lVw cVw kVw
 have bVw:=FVw.binds (ps:=["_law_fields_here","_law_values"]) fun _ _ _ _ _ _ us hl=>by obtain ⟨_,_,rfl⟩:=len2 hl;rfl
 have FBv:=a83 (st:=top 47) lBv cBv kBv
 have bBv:=FBv.binds (ps:=["_law_d","_law_fields_here","_law_values"]) fun _ _ _ _ _ _ us hl=>by obtain ⟨_,_,_,rfl⟩:=len3 hl;rfl
 have FFr:=a83 (st:=top 37) lFr cFr kFr
 have bFr:=FFr.binds (ps:=["_law_d"]) fun _ _ _ _ _ _ us hl=>by obtain ⟨_,rfl⟩:=len1 hl;rfl
 have FIs:=a83 (st:=top 44) lIs cIs kIs
 have bIs:=FIs.binds (ps:=["_law_text"]) fun _ _ _ _ _ _ us hl=>by obtain ⟨_,rfl⟩:=len1 hl;rfl
 have FOd:=a83 (st:=top 46) lOd cOd kOd
 have bOd:=FOd.binds (ps:=["_law_d","_law_text"]) fun _ _ _ _ _ _ us hl=>by obtain ⟨_,_,rfl⟩:=len2 hl;rfl
 have FNu:=a83 (st:=top 49) lNu cNu kNu
 have bNu:=FNu.binds (ps:=["_law_d"]) fun _ _ _ _ _ _ us hl=>by obtain ⟨_,rfl⟩:=len1 hl;rfl
 have FLe:=a83 (st:=top 50) lLe cLe kLe
 have bLe:=FLe.binds (ps:=["_law_d","_law_names","_law_kinds"]) fun _ _ _ _ _ _ us hl=>by obtain ⟨_,_,_,rfl⟩:=len3 hl;rfl
 have FTr:=a83 (st:=top 51) lTr cTr kTr
 have bTr:=FTr.binds (ps:=["_law_d","_law_deep_here","_law_names","_law_kinds"]) fun _ _ _ _ _ _ us hl=>by obtain ⟨_,_,_,_,rfl⟩:=len4 hl;rfl
 have FPa:=a83 (st:=top 52) lPa cPa kPa
 have bPa:=FPa.binds (ps:=["_law_test_here"]) fun _ _ _ _ _ _ us hl=>by obtain ⟨_,rfl⟩:=len1 hl;rfl
 have FDe:=a83 (st:=top 53) lDe cDe kDe
 have bDe:=FDe.binds (ps:=["_law_test_here"]) fun _ _ _ _ _ _ us hl=>by obtain ⟨_,rfl⟩:=len1 hl;rfl
 have FTe:=a83 (st:=top 54) lTe cTe kTe
 have bTe:=FTe.binds (ps:=["_law_d","_law_names","_law_kinds"]) fun _ _ _ _ _ _ us hl=>by obtain ⟨_,_,_,rfl⟩:=len3 hl;rfl
 have FLo:=a83 (st:=top 55) lLo cLo kLo
 have bLo:=FLo.binds (ps:=["_law_test_here"]) fun _ _ _ _ _ _ us hl=>by obtain ⟨_,rfl⟩:=len1 hl;rfl
 have FSo:=a83 (st:=top 56) lSo cSo kSo
 have bSo:=FSo.binds (ps:=["_law_test_here"]) fun _ _ _ _ _ _ us hl=>by obtain ⟨_,rfl⟩:=len1 hl;rfl
 have FTo:=a83 (st:=top 57) lTo cTo kTo
 have bTo:=FTo.binds (ps:=["_law_test_here"]) fun _ _ _ _ _ _ us hl=>by obtain ⟨_,rfl⟩:=len1 hl;rfl
 have FBt:=a83 (st:=top 58) lBt cBt kBt
 have bBt:=FBt.binds (ps:=["_law_d","_law_test_here"]) fun _ _ _ _ _ _ us hl=>by obtain ⟨_,_,rfl⟩:=len2 hl;rfl
 have FLp:=a83 (st:=top 59) lLp cLp kLp
 have bLp:=FLp.binds (ps:=["_law_test_here","_law_title","_law_fields_here","_law_values"]) fun _ _ _ _ _ _ us hl=>by obtain ⟨_,_,_,_,rfl⟩:=len4 hl;rfl
 have FKo:=a83 (st:=top 60) lKo cKo kKo
 have bKo:=FKo.binds (ps:=["_law_d"]) fun _ _ _ _ _ _ us hl=>by obtain ⟨_,rfl⟩:=len1 hl;rfl
 have FNo:=a83 (st:=top 61) lNo cNo kNo
 have bNo:=FNo.binds (ps:=["_law_d","_law_fields_here"]) fun _ _ _ _ _ _ us hl=>by obtain ⟨_,_,rfl⟩:=len2 hl;rfl
 have FNv:=a83 (st:=top 62) lNv cNv kNv
 have bNv:=FNv.binds (ps:=["_law_d","_law_test_here","_law_fields_here"]) fun _ _ _ _ _ _ us hl=>by obtain ⟨_,_,_,rfl⟩:=len3 hl;rfl
 have FLy:=a83 (st:=top 63) lLy cLy kLy
 have bLy:=FLy.binds (ps:=["_law_test_here"]) fun _ _ _ _ _ _ us hl=>by obtain ⟨_,rfl⟩:=len1 hl;rfl
 have FA:=a83 (st:=top 45) lA cA kA
 have bA:=FA.binds (ps:=["_law_ask_here"]) fun _ _ _ _ _ _ us hl=>by obtain ⟨_,rfl⟩:=len1 hl;rfl
 have FNm:=a83 (st:=top 14) lNm cNm kNm
 have bNm:=FNm.binds (ps:=["text"]) fun _ _ _ _ _ _ us hl=>by obtain ⟨_,rfl⟩:=len1 hl;rfl
 have FNn:=a83 (st:=top 15) lNn cNn kNn
 have bNn:=FNn.binds (ps:=["text"]) fun _ _ _ _ _ _ us hl=>by obtain ⟨_,rfl⟩:=len1 hl;rfl
 have FNf:=a83 (st:=top 16) lNf cNf kNf
 have bNf:=FNf.binds (ps:=["fields"]) fun _ _ _ _ _ _ us hl=>by obtain ⟨_,rfl⟩:=len1 hl;rfl
 have FIw:=a83 (st:=top 24) lIw cIw kIw
 have bIw:=FIw.binds (ps:=["thing"]) fun _ _ _ _ _ _ us hl=>by obtain ⟨_,rfl⟩:=len1 hl;rfl
 have FNb:=a83 (st:=top 25) lNb cNb kNb
 have bNb:=FNb.binds (ps:=["thing"]) fun _ _ _ _ _ _ us hl=>by obtain ⟨_,rfl⟩:=len1 hl;rfl
 have FLf:=a83 (st:=top 26) lLf cLf kLf
 have bLf:=FLf.binds (ps:=["test"]) fun _ _ _ _ _ _ us hl=>by obtain ⟨_,rfl⟩:=len1 hl;rfl
 have FCp:=a83 (st:=top 27) lCp cCp kCp
 have bCp:=FCp.binds (ps:=["thing","deep"]) fun _ _ _ _ _ _ us hl=>by obtain ⟨_,_,rfl⟩:=len2 hl;rfl
 have FIt:=a83 (st:=top 28) lIt cIt kIt
 have bIt:=FIt.binds (ps:=["test"]) fun _ _ _ _ _ _ us hl=>by obtain ⟨_,rfl⟩:=len1 hl;rfl
 have FNt:=a83 (st:=top 29) lNt cNt kNt
 have bNt:=FNt.binds (ps:=["test"]) fun _ _ _ _ _ _ us hl=>by obtain ⟨_,rfl⟩:=len1 hl;rfl
 have FHo:=a83 (st:=top 30) lHo cHo kHo
 have bHo:=FHo.binds (ps:=["test","kind","values"]) fun _ _ _ _ _ _ us hl=>by obtain ⟨_,_,_,rfl⟩:=len3 hl;rfl
 have FPs:=a83 (st:=top 31) lPs cPs kPs
 have bPs:=FPs.binds (ps:=["test","kind","values"]) fun _ _ _ _ _ _ us hl=>by obtain ⟨_,_,_,rfl⟩:=len3 hl;rfl
 have FPl:=a83 (st:=top 32) lPl cPl kPl
 have bPl:=FPl.binds (ps:=["leaf","kind","values"]) fun _ _ _ _ _ _ us hl=>by obtain ⟨_,_,_,rfl⟩:=len3 hl;rfl
 have FSE:FunD K "__init__" "ScribeError.__init__" sSE (.ref TS) fSE _:=⟨⟨_,_,_,_,_,_,_,_,_,rfl,lSE,cSE⟩,kSE⟩
 have bSE:=FSE.binds (ps:=["self","words","word"]) (ds:=[]) lTS rfl fun kV doc pm an cdv ct s us hT hl=>(by rw [List.append_nil] at hl ⊢;obtain ⟨_,_,_,rfl⟩:=len3 hl;exact BindsTo.of_defaults rfl hT rfl rfl rfl)
 have MS:MkOf K mg "ScribeError" qS fSE:=⟨PySem.W.mg_of X G a_qS,sg,⟨_,rd1,rd2⟩,kSE⟩
 have FiT:FunD K "__init__" "BadTest.__init__" ah3 (.ref TdT) fiT _:=⟨⟨_,_,_,_,_,_,_,_,_,rfl,liT,ciT⟩,kiT⟩
 have bbT:=FiT.binds (ps:=["self","words"]) (ds:=[]) lTT rfl fun kV doc pm an cdv ct s us hT hl=>(by rw [List.append_nil] at hl ⊢;obtain ⟨_,_,rfl⟩:=len2 hl;exact BindsTo.of_defaults rfl hT rfl rfl rfl)
 have ECT:ECls K qT:=⟨am5 x1T x2T x3T x4T x5T rl_ve,tkT⟩
 have WCT:WCls K mg "BadTest" qT fiT _:=⟨bbT,PySem.W.mg_of X G a_qT,ECT,biT,niT⟩
 have TA:TxtA K mg qV qS qM:=⟨PySem.W.mg_none_of X G z_str,PySem.W.mg_of X G a_qV,PySem.W.mg_of X G a_qS,PySem.W.mg_of X G a_qM,⟨_,_,am5 x1V x2V x3V x4V x5V rl_ve⟩,⟨_,_,am5 x1S x2S x3S x4S x5S rl_ve⟩,⟨_,_,am5 x1M x2M x3M x4M x5M rl_le⟩⟩
 have FBq:=a83 (st:=sBV) lBq cBq kBq
 have bBq:=FBq.binds (ps:=["self","at"]) fun _ _ _ _ _ _ us hl=>by obtain ⟨_,_,rfl⟩:=len2 hl;rfl
 have WV:VCls K mg qV fBq _:=⟨bBq,PySem.W.mg_of X G a_qV,⟨⟨am5 x1V x2V x3V x4V x5V rl_ve,tw⟩,ta⟩,aBq,nBq⟩
 have BV:BadV K qV:=⟨mv,g1,g2,g3,g4,g5⟩
 have DB:Def K mg "_law_begin" (top 34) ["_law_script"] fB _:=⟨FB,PySem.W.mg_of X G aB,bB⟩
 have DP:Def K mg "_law_pick" (top 35) ["_law_d","_law_many"] fP _:=⟨FP,PySem.W.mg_of X G aP,bP⟩
 have DO:Def K mg "_law_of" (top 36) ["_law_d","_law_things"] fO _:=⟨FO,PySem.W.mg_of X G aO,bO⟩
 have DW:Def K mg "_law_word" (top 39) ["_law_d"] fW _:=⟨FW,PySem.W.mg_of X G aW,bW⟩
 have DWs:Def K mg "_law_words" (top 40) ["_law_d","_law_many"] fWs _:=⟨FWs,PySem.W.mg_of X G aWs,bWs⟩
 have DBd:Def K mg "_law_bound" (top 41) ["_law_d"] fBd _:=⟨FBd,PySem.W.mg_of X G aBd,bBd⟩
 have DF:Def K mg "_law_fields" (top 42) ["_law_d","_law_many"] fF _:=⟨FF,PySem.W.mg_of X G aF,bF⟩
 have DS:Def K mg "_law_same" (top 38) ["_law_found","_law_due"] fS _:=⟨FS,PySem.W.mg_of X G aS,bS⟩
 have DVl:Def K mg "_law_value" (top 43) ["_law_d","_law_field"] fVl _:=⟨FVl,PySem.W.mg_of X G aVl,bVl⟩
 have DVw:Def K mg "_law_values_word" (top 48) ["_law_fields_here","_law_values"] fVw _:=⟨FVw,PySem.W.mg_of X G aVw,bVw⟩
 have DBv:Def K mg "_law_bent_values" (top 47) ["_law_d","_law_fields_here","_law_values"] fBv _:=⟨FBv,PySem.W.mg_of X G aBv,bBv⟩
 have DFr:Def K mg "_law_far" (top 37) ["_law_d"] fFr _:=⟨FFr,PySem.W.mg_of X G aFr,bFr⟩
 have DIs:Def K mg "_law_is_name" (top 44) ["_law_text"] fIs _:=⟨FIs,PySem.W.mg_of X G aIs,bIs⟩
 have DOd:Def K mg "_law_odd_name" (top 46) ["_law_d","_law_text"] fOd _:=⟨FOd,PySem.W.mg_of X G aOd,bOd⟩
 have DNu:Def K mg "_law_number" (top 49) ["_law_d"] fNu _:=⟨FNu,PySem.W.mg_of X G aNu,bNu⟩
 have DLe:Def K mg "_law_leaf" (top 50) ["_law_d","_law_names","_law_kinds"] fLe _:=⟨FLe,PySem.W.mg_of X G aLe,bLe⟩
 have DTr:Def K mg "_law_tree" (top 51) ["_law_d","_law_deep_here","_law_names","_law_kinds"] fTr _:=⟨FTr,PySem.W.mg_of X G aTr,bTr⟩
 have DPa:Def K mg "_law_parts" (top 52) ["_law_test_here"] fPa _:=⟨FPa,PySem.W.mg_of X G aPa,bPa⟩
 have DDe:Def K mg "_law_deep" (top 53) ["_law_test_here"] fDe _:=⟨FDe,PySem.W.mg_of X G aDe,bDe⟩
 have DTe:Def K mg "_law_test" (top 54) ["_law_d","_law_names","_law_kinds"] fTe _:=⟨FTe,PySem.W.mg_of X G aTe,bTe⟩
 have DLo:Def K mg "_law_leaf_ok" (top 55) ["_law_test_here"] fLo _:=⟨FLo,PySem.W.mg_of X G aLo,bLo⟩
 have DSo:Def K mg "_law_shape_ok" (top 56) ["_law_test_here"] fSo _:=⟨FSo,PySem.W.mg_of X G aSo,bSo⟩
 have DTo:Def K mg "_law_test_ok" (top 57) ["_law_test_here"] fTo _:=⟨FTo,PySem.W.mg_of X G aTo,bTo⟩
 have DBt:Def K mg "_law_bent_test" (top 58) ["_law_d","_law_test_here"] fBt _:=⟨FBt,PySem.W.mg_of X G aBt,bBt⟩
 have DLp:Def K mg "_law_passes" (top 59) ["_law_test_here","_law_title","_law_fields_here","_law_values"] fLp _:=⟨FLp,PySem.W.mg_of X G aLp,bLp⟩
 have DKo:Def K mg "_law_kind_of" (top 60) ["_law_d"] fKo _:=⟨FKo,PySem.W.mg_of X G aKo,bKo⟩
 have DNo:Def K mg "_law_names_of" (top 61) ["_law_d","_law_fields_here"] fNo _:=⟨FNo,PySem.W.mg_of X G aNo,bNo⟩
 have DNv:Def K mg "_law_near_values" (top 62) ["_law_d","_law_test_here","_law_fields_here"] fNv _:=⟨FNv,PySem.W.mg_of X G aNv,bNv⟩
 have DLy:Def K mg "_law_leaves_any" (top 63) ["_law_test_here"] fLy _:=⟨FLy,PySem.W.mg_of X G aLy,bLy⟩
 have DA:Def K mg "_law_ask" (top 45) ["_law_ask_here"] fA _:=⟨FA,PySem.W.mg_of X G aA,bA⟩
 have DNm:Def K mg "is_name" (top 14) ["text"] fNm _:=⟨FNm,PySem.W.mg_of X G aNm,bNm⟩
 have DNn:Def K mg "need_name" (top 15) ["text"] fNn _:=⟨FNn,PySem.W.mg_of X G aNn,bNn⟩
 have DNf:Def K mg "need_fields" (top 16) ["fields"] fNf _:=⟨FNf,PySem.W.mg_of X G aNf,bNf⟩
 have DIw:Def K mg "is_word" (top 24) ["thing"] fIw _:=⟨FIw,PySem.W.mg_of X G aIw,bIw⟩
 have DNb:Def K mg "is_number" (top 25) ["thing"] fNb _:=⟨FNb,PySem.W.mg_of X G aNb,bNb⟩
 have DLf:Def K mg "is_leaf" (top 26) ["test"] fLf _:=⟨FLf,PySem.W.mg_of X G aLf,bLf⟩
 have DCp:Def K mg "count_parts" (top 27) ["thing","deep"] fCp _:=⟨FCp,PySem.W.mg_of X G aCp,bCp⟩
 have DIt:Def K mg "is_test" (top 28) ["test"] fIt _:=⟨FIt,PySem.W.mg_of X G aIt,bIt⟩
 have DNt:Def K mg "need_test" (top 29) ["test"] fNt _:=⟨FNt,PySem.W.mg_of X G aNt,bNt⟩
 have DHo:Def K mg "holds" (top 30) ["test","kind","values"] fHo _:=⟨FHo,PySem.W.mg_of X G aHo,bHo⟩
 have DPs:Def K mg "passes" (top 31) ["test","kind","values"] fPs _:=⟨FPs,PySem.W.mg_of X G aPs,bPs⟩
 have DPl:Def K mg "passes_leaf" (top 32) ["leaf","kind","values"] fPl _:=⟨FPl,PySem.W.mg_of X G aPl,bPl⟩
 have FKI:FunD K "__init__" "Kind.__init__" (kM 0) (.ref TdK) fKI _:=⟨⟨_,_,_,_,_,_,_,_,_,rfl,lKI,cKI⟩,kKI⟩
 have bKI:=FKI.binds (ps:=["self","name","fields"]) (ds:=[]) lTK rfl fun kV doc pm an cdv ct s us hT hl=>bindInit rfl kV doc pm an cdv ct s us hT hl
 have MkK:Mk K qK fKI:=⟨mkK,aKI,iKI,kcK⟩
 have FPo:=a83 (st:=kM 3) lPo cPo kPo
 have bPo:=FPo.binds (ps:=["self","field"]) fun _ _ _ _ _ _ us hl=>by obtain ⟨_,_,rfl⟩:=len2 hl;rfl
 have MPo:MD K qK "place_of" "Kind.place_of" (kM 3) ["self","field"] fPo _:=⟨⟨aPo,iPo,kPo⟩,FPo,bPo⟩
 have FNe:=a83 (st:=kM 4) lNe cNe kNe
 have bNe:=FNe.binds (ps:=["self","values"]) fun _ _ _ _ _ _ us hl=>by obtain ⟨_,_,rfl⟩:=len2 hl;rfl
 have MNe:MD K qK "need" "Kind.need" (kM 4) ["self","values"] fNe _:=⟨⟨aNe,iNe,kNe⟩,FNe,bNe⟩
 refine ⟨PySem.W.fnOf "law" "law" (a75 (top 64)) (a71 (top 64)) (a03 (top 64)) .none kVLa dcLa pmLa anLa (.ref cc) ctLa,spLaw K Tt #[],fun s v=>.of_eq rfl,fun T m=>by cases List.mem_singleton.mp m;exact ⟨lTt,cc,tb⟩,fun H a ns hl hT hS=>⟨a,ns,rfl,hS,hl,hT _ (List.mem_singleton.mpr rfl),fun _=>rfl⟩,fun base kb0' nsb hbt=>?_⟩
 obtain ⟨hbb,hg⟩:=hbt Tt (List.mem_singleton.mpr rfl)
 have TK':TxtK mg:=⟨⟨_,PySem.W.mg_of X G i_MOST_LETTERS⟩,⟨_,PySem.W.mg_of X G i_MOST_FIELDS⟩,⟨_,PySem.W.mg_of X G i_LIMIT⟩⟩
 have TT:TxtT mg:=⟨⟨_,PySem.W.mg_of X G i_MOST_PARTS⟩,⟨_,PySem.W.mg_of X G i_MOST_DEEP⟩⟩
 have TB:Tabs K mg tW tS:=⟨PySem.W.mg_of X G a_tW,PySem.W.mg_of X G a_tS,ktW,ktS⟩
 have hsum:=PySem.W.mg_none_of X G z_sum
 have hmax:=PySem.W.mg_none_of X G z_max
 have hen:=PySem.W.mg_none_of X G z_enumerate
 have hzp:=PySem.W.mg_none_of X G z_zip
 have KC:KCls K mg qK:=⟨⟨pgK,hdK,poK,saK⟩,nK_name,nK_fields,PySem.W.mg_of X G a_qK⟩
 have BT:BadT K qT qV qS:=⟨mvT,msT,g1T,g2T,g3T,g4T,g5T⟩
 have GCp:=ok_cp (P:=l.prog) (w:=w) (base:=base) DCp T hsum TK' TB DNm DIw DNb DLf 5 (by decide)
 have GIt:=ok_it (P:=l.prog) (w:=w) (base:=base) DIt.F TT DCp GCp
 have GBT:=ok_BadTest (P:=l.prog) (w:=w) (base:=base) (CX:=CX0) FiT TE FSE bSE MS
 have GNt:=ok_nt (P:=l.prog) (w:=w) (base:=base) DNt.F DIt GIt WCT GBT
 have GBV:=ok_bv (P:=l.prog) (w:=w) (base:=base) (CX:=CX0) FBq TE FSE bSE MS
 have GNe:=ok_need (P:=l.prog) (w:=w) (base:=base) FNe T hen hzp KC WV GBV
 have GPo:=ok_place (P:=l.prog) (w:=w) (base:=base) FPo T hen KC
 have GPl:=ok_pl (P:=l.prog) (w:=w) (base:=base) DPl.F KC MPo GPo
 have GPs:=ok_ps (P:=l.prog) (w:=w) (base:=base) DPs DPl GPl 5
 have GHo:=ok_ho (P:=l.prog) (w:=w) (base:=base) DHo.F KC DNt GNt MNe GNe DPs GPs
 have GW:=ok_word (P:=l.prog) (w:=w) (base:=base) DW.F T DP DO
 have GF:=ok_fields (P:=l.prog) (w:=w) (base:=base) DF.F T DP DO DW DWs DBd
 have GTe:=ok_te (P:=l.prog) (w:=w) (base:=base) DTe.F T hsum DP DO DNu DLe DTr DPa
 have GBt:=ok_bu (P:=l.prog) (w:=w) (base:=base) DBt T DP DO DW DFr DOd 5
 have GSo:=ok_so (P:=l.prog) (w:=w) (base:=base) DSo T DIs DLo 8
 have GTo:=ok_to (P:=l.prog) (w:=w) (base:=base) DTo.F DSo GSo DDe (ok_de DDe hmax 8) DPa (ok_pa DPa hsum 8)
 have GKI:=ok_init (P:=l.prog) (w:=w) (base:=base) FKI T TK' KC DNm DNn DNf
 have GA:=ok_ask (P:=l.prog) (w:=w) (base:=base) (CX:=CX0) (k:=13) DA.F TA
 exact ok_law lLa cLa (hd_of kb0' tb) hbb hg trivial (fun lp m=>rfl) T KC BT BV DB DP DW GW DS DKo (ok_ko DKo.F T DP DW GW DF GF) DNo (ok_no DNo.F DW GW) DTe GTe DBt GBt DTo GTo DNv (ok_nv DNv.F T hmax DP DVl (ok_val DVl.F T DP DO) DLy) DBv (ok_bvs DBv.F T DP DO DFr) DVw (ok_vw DVw.F T) DLp DHo GHo MkK GKI bKI GA (PySem.W.mg_of X G aA) kA bA
end Cm
open PySem PySem.W PyProof.Rows
set_option maxRecDepth 100000 in
set_option maxHeartbeats 0 in
theorem PySem.Challenge.cw_lanescribe_k06_events_that_pass_holds : PySem.Challenge.rw_lanescribe_k06_events_that_pass.Holds := by
 w_on
 refine Kd.head ?hw (by rfl) (by rfl) (by rfl) ?hc
 (case hw=>w_witness2)
 k_fill
 refine L2.walk_ofM (l:=PySem.Challenge.rw_lanescribe_k06_events_that_pass) (n:=63) (k:=15) (x:="_law_script") (CX:=fun _=>L2.CX0) rfl (by decide) rfl ⟨rfl,by decide,by decide,rfl⟩ (fun w h Y=>PySem.W.km_in_of Y) (fun w h Y=>PySem.W.km_tabs_of Y) ?F (fun _ _ _ _ _ z=>z)
 case F=>
  intro w mg fa h KX G hmg
  refine' Cm.all_mk KX G hmg ?aLa ?lLa ?lcc ?lTt ?tb ?cLa ?aB ?lB ?cB ?kB ?aP ?lP ?cP ?kP ?aO ?lO ?cO ?kO ?aW ?lW ?cW ?kW ?aWs ?lWs ?cWs ?kWs ?aBd ?lBd ?cBd ?kBd ?aF ?lF ?cF ?kF ?aS ?lS ?cS ?kS ?aVl ?lVl ?cVl ?kVl ?aVw ?lVw ?cVw ?kVw ?aBv ?lBv ?cBv ?kBv ?aFr ?lFr ?cFr ?kFr ?aIs ?lIs ?cIs ?kIs ?aOd ?lOd ?cOd ?kOd ?aNu ?lNu ?cNu ?kNu ?aLe ?lLe ?cLe ?kLe ?aTr ?lTr ?cTr ?kTr ?aPa ?lPa ?cPa ?kPa ?aDe ?lDe ?cDe ?kDe ?aTe ?lTe ?cTe ?kTe ?aLo ?lLo ?cLo ?kLo ?aSo ?lSo ?cSo ?kSo ?aTo ?lTo ?cTo ?kTo ?aBt ?lBt ?cBt ?kBt ?aLp ?lLp ?cLp ?kLp ?aKo ?lKo ?cKo ?kKo ?aNo ?lNo ?cNo ?kNo ?aNv ?lNv ?cNv ?kNv ?aLy ?lLy ?cLy ?kLy ?aA ?lA ?cA ?kA ?aNm ?lNm ?cNm ?kNm ?aNn ?lNn ?cNn ?kNn ?aNf ?lNf ?cNf ?kNf ?aIw ?lIw ?cIw ?kIw ?aNb ?lNb ?cNb ?kNb ?aLf ?lLf ?cLf ?kLf ?aCp ?lCp ?cCp ?kCp ?aIt ?lIt ?cIt ?kIt ?aNt ?lNt ?cNt ?kNt ?aHo ?lHo ?cHo ?kHo ?aPs ?lPs ?cPs ?kPs ?aPl ?lPl ?cPl ?kPl ?z_len ?z_range ?z_list ?z_tuple ?z_str ?z_bool ?z_int ?z_min ?z_repr ?z_all ?z_any ?z_isinstance ?z_sum ?z_max ?z_ValueError ?z_enumerate ?z_zip ?i_MOST_LETTERS ?i_MOST_FIELDS ?i_LIMIT ?i_MOST_PARTS ?i_MOST_DEEP ?a_tW ?ktW ?a_tS ?ktS ?a_qK ?pgK ?hdK ?poK ?saK ?mkK ?kcK ?nK_name ?nK_fields ?aKI ?lKI ?cKI ?kKI ?iKI ?lTK ?aPo ?iPo ?lPo ?cPo ?kPo ?aNe ?iNe ?lNe ?cNe ?kNe ?a_qS ?a_qV ?a_qM ?x1S ?x2S ?x3S ?x4S ?x5S ?x1V ?x2V ?x3V ?x4V ?x5V ?x1M ?x2M ?x3M ?x4M ?x5M ?aSE ?lSE ?cSE ?kSE ?lTS ?fc ?sg ?rd1 ?rd2 ?a_qT ?x1T ?x2T ?x3T ?x4T ?x5T ?tkT ?aiT ?liT ?ciT ?kiT ?biT ?niT ?lTT ?mvT ?msT ?g1T ?g2T ?g3T ?g4T ?g5T ?aBq ?lBq ?cBq ?kBq ?nBq ?tw ?ta ?mv ?g1 ?g2 ?g3 ?g4 ?g5
  (case aLa=>k_is)
  (case lLa=>k_is)
  (case lcc=>k_is)
  (case lTt=>kernel_rfl)
  (case tb=>kernel_rfl)
  (case cLa=>k_is)
  (case aB=>k_is)
  (case lB=>k_is)
  (case cB=>k_is)
  (case kB=>k_is)
  (case aP=>k_is)
  (case lP=>k_is)
  (case cP=>k_is)
  (case kP=>k_is)
  (case aO=>k_is)
  (case lO=>k_is)
  (case cO=>k_is)
  (case kO=>k_is)
  (case aW=>k_is)
  (case lW=>k_is)
  (case cW=>k_is)
  (case kW=>k_is)
  (case aWs=>k_is)
  (case lWs=>k_is)
  (case cWs=>k_is)
  (case kWs=>k_is)
  (case aBd=>k_is)
  (case lBd=>k_is)
  (case cBd=>k_is)
  (case kBd=>k_is)
  (case aF=>k_is)
  (case lF=>k_is)
  (case cF=>k_is)
  (case kF=>k_is)
  (case aS=>k_is)
  (case lS=>k_is)
  (case cS=>k_is)
  (case kS=>k_is)
  (case aVl=>k_is)
  (case lVl=>k_is)
  (case cVl=>k_is)
  (case kVl=>k_is)
  (case aVw=>k_is)
  (case lVw=>k_is)
  (case cVw=>k_is)
  (case kVw=>k_is)
  (case aBv=>k_is)
  (case lBv=>k_is)
  (case cBv=>k_is)
  (case kBv=>k_is)
  (case aFr=>k_is)
  (case lFr=>k_is)
  (case cFr=>k_is)
  (case kFr=>k_is)
  (case aIs=>k_is)
  (case lIs=>k_is)
  (case cIs=>k_is)
  (case kIs=>k_is)
  (case aOd=>k_is)
  (case lOd=>k_is)
  (case cOd=>k_is)
  (case kOd=>k_is)
  (case aNu=>k_is)
  (case lNu=>k_is)
  (case cNu=>k_is)
  (case kNu=>k_is)
  (case aLe=>k_is)
  (case lLe=>k_is)
  (case cLe=>k_is)
  (case kLe=>k_is)
  (case aTr=>k_is)
  (case lTr=>k_is)
  (case cTr=>k_is)
  (case kTr=>k_is)
  (case aPa=>k_is)
  (case lPa=>k_is)
  (case cPa=>k_is)
  (case kPa=>k_is)
  (case aDe=>k_is)
  (case lDe=>k_is)
  (case cDe=>k_is)
  (case kDe=>k_is)
  (case aTe=>k_is)
  (case lTe=>k_is)
  (case cTe=>k_is)
  (case kTe=>k_is)
  (case aLo=>k_is)
  (case lLo=>k_is)
  (case cLo=>k_is)
  (case kLo=>k_is)
  (case aSo=>k_is)
  (case lSo=>k_is)
  (case cSo=>k_is)
  (case kSo=>k_is)
  (case aTo=>k_is)
  (case lTo=>k_is)
  (case cTo=>k_is)
  (case kTo=>k_is)
  (case aBt=>k_is)
  (case lBt=>k_is)
  (case cBt=>k_is)
  (case kBt=>k_is)
  (case aLp=>k_is)
  (case lLp=>k_is)
  (case cLp=>k_is)
  (case kLp=>k_is)
  (case aKo=>k_is)
  (case lKo=>k_is)
  (case cKo=>k_is)
  (case kKo=>k_is)
  (case aNo=>k_is)
  (case lNo=>k_is)
  (case cNo=>k_is)
  (case kNo=>k_is)
  (case aNv=>k_is)
  (case lNv=>k_is)
  (case cNv=>k_is)
  (case kNv=>k_is)
  (case aLy=>k_is)
  (case lLy=>k_is)
  (case cLy=>k_is)
  (case kLy=>k_is)
  (case aA=>k_is)
  (case lA=>k_is)
  (case cA=>k_is)
  (case kA=>k_is)
  (case aNm=>k_is)
  (case lNm=>k_is)
  (case cNm=>k_is)
  (case kNm=>k_is)
  (case aNn=>k_is)
  (case lNn=>k_is)
  (case cNn=>k_is)
  (case kNn=>k_is)
  (case aNf=>k_is)
  (case lNf=>k_is)
  (case cNf=>k_is)
  (case kNf=>k_is)
  (case aIw=>k_is)
  (case lIw=>k_is)
  (case cIw=>k_is)
  (case kIw=>k_is)
  (case aNb=>k_is)
  (case lNb=>k_is)
  (case cNb=>k_is)
  (case kNb=>k_is)
  (case aLf=>k_is)
  (case lLf=>k_is)
  (case cLf=>k_is)
  (case kLf=>k_is)
  (case aCp=>k_is)
  (case lCp=>k_is)
  (case cCp=>k_is)
  (case kCp=>k_is)
  (case aIt=>k_is)
  (case lIt=>k_is)
  (case cIt=>k_is)
  (case kIt=>k_is)
  (case aNt=>k_is)
  (case lNt=>k_is)
  (case cNt=>k_is)
  (case kNt=>k_is)
  (case aHo=>k_is)
  (case lHo=>k_is)
  (case cHo=>k_is)
  (case kHo=>k_is)
  (case aPs=>k_is)
  (case lPs=>k_is)
  (case cPs=>k_is)
  (case kPs=>k_is)
  (case aPl=>k_is)
  (case lPl=>k_is)
  (case cPl=>k_is)
  (case kPl=>k_is)
  (case z_len=>k_is)
  (case z_range=>k_is)
  (case z_list=>k_is)
  (case z_tuple=>k_is)
  (case z_str=>k_is)
  (case z_bool=>k_is)
  (case z_int=>k_is)
  (case z_min=>k_is)
  (case z_repr=>k_is)
  (case z_all=>k_is)
  (case z_any=>k_is)
  (case z_isinstance=>k_is)
  (case z_sum=>k_is)
  (case z_max=>k_is)
  (case z_ValueError=>k_is)
  (case z_enumerate=>k_is)
  (case z_zip=>k_is)
  (case i_MOST_LETTERS=>k_is)
  (case i_MOST_FIELDS=>k_is)
  (case i_LIMIT=>k_is)
  (case i_MOST_PARTS=>k_is)
  (case i_MOST_DEEP=>k_is)
  (case a_tW=>k_is)
  (case ktW=>kernel_rfl)
  (case a_tS=>k_is)
  (case ktS=>kernel_rfl)
  (case a_qK=>k_is)
  (case pgK=>k_is)
  (case hdK=>k_is)
  (case poK=>k_is)
  (case saK=>k_is)
  (case mkK=>k_is)
  (case kcK=>k_is)
  (case nK_name=>k_is)
  (case nK_fields=>k_is)
  (case aKI=>k_is)
  (case lKI=>k_is)
  (case cKI=>k_is)
  (case kKI=>k_is)
  (case iKI=>k_is)
  (case lTK=>k_is)
  (case aPo=>k_is)
  (case iPo=>k_is)
  (case lPo=>k_is)
  (case cPo=>k_is)
  (case kPo=>k_is)
  (case aNe=>k_is)
  (case iNe=>k_is)
  (case lNe=>k_is)
  (case cNe=>k_is)
  (case kNe=>k_is)
  (case a_qS=>k_is)
  (case a_qV=>k_is)
  (case a_qM=>k_is)
  (case x1S=>kernel_rfl)
  (case x2S=>k_is)
  (case x3S=>kernel_rfl)
  (case x4S=>k_is)
  (case x5S=>k_is)
  (case x1V=>kernel_rfl)
  (case x2V=>k_is)
  (case x3V=>kernel_rfl)
  (case x4V=>k_is)
  (case x5V=>k_is)
  (case x1M=>kernel_rfl)
  (case x2M=>k_is)
  (case x3M=>kernel_rfl)
  (case x4M=>k_is)
  (case x5M=>k_is)
  (case aSE=>k_is)
  (case lSE=>k_is)
  (case cSE=>k_is)
  (case kSE=>k_is)
  (case lTS=>k_is)
  (case fc=>k_is)
  (case sg=>k_is)
  (case rd1=>k_is)
  (case rd2=>k_is)
  (case a_qT=>k_is)
  (case x1T=>kernel_rfl)
  (case x2T=>k_is)
  (case x3T=>kernel_rfl)
  (case x4T=>k_is)
  (case x5T=>k_is)
  (case tkT=>k_is)
  (case aiT=>k_is)
  (case liT=>k_is)
  (case ciT=>k_is)
  (case kiT=>k_is)
  (case biT=>k_is)
  (case niT=>k_is)
  (case lTT=>k_is)
  (case mvT=>k_is)
  (case msT=>k_is)
  (case g1T=>k_is)
  (case g2T=>k_is)
  (case g3T=>k_is)
  (case g4T=>k_is)
  (case g5T=>k_is)
  (case aBq=>k_is)
  (case lBq=>k_is)
  (case cBq=>k_is)
  (case kBq=>k_is)
  (case nBq=>k_is)
  (case tw=>k_is)
  (case ta=>k_is)
  (case mv=>k_is)
  (case g1=>k_is)
  (case g2=>k_is)
  (case g3=>k_is)
  (case g4=>k_is)
  (case g5=>k_is)
