import PyProof.Rows.All
import Wide.All
import OpenK.AllK
import Wide.FinOn
import KE.KNestM
import Lean
import PyProof.EqAt
import PyProof.EqKinds
import PyProof.TupleCall
import PyProof.StationsW
import PyProof.ExcBaseAll.ValueError
import PyProof.InstStoreFacts
import PyProof.RulesAs
import PyProof.RulesDel
import KE.KLam
import PyProof.ExcArgsOwn
import PyProof.AutoListH
import PyProof.StrWalks
import PyProof.StrBlockH
import PyProof.WalkInts
import PyProof.SeqI3
import PyProof.Rows.SetFrom
import PyProof.ZipIter
import KE.KTabLook
import PyProof.StrLaws
import KE.KIntText
import KE.KStrOpen
import PyProof.StrLawsTight
import PyProof.Rows.StrFit
import PyProof.Draws
import PyProof.EnumMake
import PyProof.StrCalls2
import PyProof.Rows.StrSplitJoin
import PyProof.CollectIter
import PyProof.StrBlock2
import PyProof.Rows.SortWalk
import PyProof.Rows.CallKwBuiltin
import KE.KMinBuiltin
import KE.KRevSl
import KE.KPar
import PySem.Challenge.RW_lanescribe_k17_whole_readers_stop_no_wri
set_option Elab.async false
set_option linter.all false
set_option maxRecDepth 1000000
set_option maxHeartbeats 0
namespace Kd
open PySem PySem.W
noncomputable section
theorem left_boot {p q:Program} {loose:List Str} {Xt:Shared->Bool} {α:Type} {Yf:Shared->α} {Ya:World->α} {N:Nat} (e:opening p=plainProg p.main.scope.names) (hN:Nat.ble 600 N=true) (f:∀ s,fenceModules? p s=some s)
 (h:∀ (w:World) (os:OsState),(topFrom treeTable p w N ⟨boot_heap w.params,Array.mk [],boot_drawn,boot_toks,os⟩).map (fun s=>(openSeen q loose (importedModules p.main.body) Xt true s,Yf s))=some (openGood q loose,Ya w)):LeftO p q loose Xt Yf Ya N:=fun w=>by
 obtain ⟨⟨h',gs,d,k,os⟩,e1,e2⟩:=Option.map_eq_some_iff.mp (boot_open e hN f w)
 obtain ⟨rfl,rfl,rfl,rfl⟩:h'=boot_heap w.params/\gs=Array.mk []/\d=boot_drawn/\k=boot_toks:=by simpa using e2
 unfold openEnds
 rw [e1]
 exact h w os
abbrev u (x:String):Str:=Str.ofString x
abbrev vs (x:String) (t:Nat):Value:=.str (Str.ofString x) t
abbrev vi (x:Int) (t:Nat):Value:=.int x t
abbrev vr (x:Nat):Value:=.ref x
abbrev vt (x:String):Value:=.type x
abbrev vn:Value:=.none
abbrev vb:Value:=.bool true
abbrev vf (t:Nat):Value:=.str (Str.ofString "/claim/cut.py") t
abbrev ot (x:Array Value):Obj:={ cls:=.type "tuple",data:=Data.seq x }
abbrev oc (x:Array Value):Obj:={ cls:=.type "code",data:=Data.fields x }
abbrev of (n q:String) (a:Arguments) (b:List Stmt) (s:Scope) (d m c:Value):Obj:={ cls:=.type "function",data:=Data.func { name:=Str.ofString n,qualname:=Str.ofString q,params:=a,body:=FuncBody.stmts b,scope:=s,globals:=3,closure:=[],defaults:=d,kwdefaults:=.none,pyModule:=m,code:=c } }
abbrev de (P:Params) (x:String) (t:Nat) (v:Value):DictEntry:={ hash:=PyData.keyHash P (Str.ofString x),key:=.str (Str.ofString x) t,val:=v }
def tp (i:Nat):Stmt:=PySem.Challenge.pw_lanescribe_k17_whole_readers_stop_no_wri.main.body.getD i (.Pass ⟨0,0,0,0⟩)
def meth (i j:Nat):Stmt:=match tp i with
 |.ClassDef _ _ _ body _ _ _ _ _ _ _=>body.getD j (.Pass ⟨0,0,0,0⟩)
 |_=>.Pass ⟨0,0,0,0⟩
def dA (s:Stmt):Arguments:=match s with
 |.FunctionDef _ a _ _ _ _ _ _ _ _=>a
 |_=>{ posonlyargs:=[],args:=[],vararg:=none,kwonlyargs:=[],kw_defaults:=[],kwarg:=none,defaults:=[] }
def dB (s:Stmt):List Stmt:=match s with
 |.FunctionDef _ _ b _ _ _ _ _ _ _=>b
 |_=>[]
def dS (s:Stmt):Scope:=match s with
 |.FunctionDef _ _ _ _ _ _ sc _ _ _=>sc
 |_=>{ kind:=.function,names:=[],isGenerator:=false,isCoroutine:=false }
abbrev TA (i:Nat):Arguments:=dA (tp i)
abbrev TB (i:Nat):List Stmt:=dB (tp i)
abbrev TS (i:Nat):Scope:=dS (tp i)
abbrev MA (i j:Nat):Arguments:=dA (meth i j)
abbrev MB (i j:Nat):List Stmt:=dB (meth i j)
abbrev MS (i j:Nat):Scope:=dS (meth i j)
def KK:Params->Frag:=fun P=>
 (nat_lit 2,{ cls:=vn,data:=Data.dict #[] })::
 (nat_lit 3,{ cls:=vt "dict",data:=Data.dict #[de P "__name__" 165 (vs "law_lanescribe_k17_whole_readers_stop_no_wri" 1023),de P "__doc__" 166 (vn),de P "__package__" 167 (vn),de P "__loader__" 168 (Value.builtin "__main__.__loader__#opaque"),de P "__spec__" 169 (vn),de P "__annotations__" 170 (vr 6),de P "__builtins__" 171 (vr 4),de P "__file__" 173 (vf 172),de P "__cached__" 174 (vn),de P "_wall" 193 (vr 21),de P "ScribeError" 225 (vr 39),de P "BadName" 250 (vr 60),de P "BadBounds" 275 (vr 80),de P "BadSize" 300 (vr 100),de P "BadTime" 325 (vr 120),de P "Taken" 350 (vr 140),de P "Full" 375 (vr 160),de P "NotTop" 400 (vr 180),de P "Missing" 430 (vr 200),de P "NoTicket" 455 (vr 221),de P "LIMIT" 459 (vi 999999 458),de P "MOST_LETTERS" 461 (vi 8 460),de P "MOST_FIELDS" 463 (vi 4 462),de P "is_name" 470 (vr 230),de P "need_name" 477 (vr 237),de P "need_fields" 488 (vr 244),de P "bounds_text" 494 (vr 249),de P "Kind" 584 (vr 322),de P "PAGES" 588 (vi 4 587),de P "ROOM" 590 (vi 8 589),de P "FEWEST_PAGES" 592 (vi 2 591),de P "MOST_PAGES" 594 (vi 16 593),de P "LEAST_ROOM" 596 (vi 5 595),de P "MOST_ROOM" 598 (vi 12 597),de P "need_pages" 605 (vr 333),de P "need_room" 612 (vr 340),de P "told_from" 622 (vr 347),de P "place_behind" 631 (vr 354),de P "Claim" 681 (vr 385),de P "Page" 730 (vr 423),de P "Lane" 962 (vr 602),de P "MOST_TOLD" 966 (vi 400 965),de P "Looker" 1022 (vr 646),de P "_law_begin" 1033 (vr 657),de P "_law_pick" 1044 (vr 664),de P "_law_of" 1052 (vr 671),de P "_law_word" 1058 (vr 676),de P "_law_words" 1070 (vr 683),de P "_law_bound" 1078 (vr 690),de P "_law_fields" 1091 (vr 697),de P "_law_kinds_for" 1097 (vr 702),de P "_law_num" 1104 (vr 709),de P "law" 1110 (vr 714)] 53 })::
 (nat_lit 15,ot #[])::
 (nat_lit 17,ot #[vs "k" 190])::
 (nat_lit 18,ot #[])::
 (nat_lit 20,oc #[vs "_wall" 187,vs "_wall" 188,vf 189,vi 1 0,vi 1 0,vi 0 0,vi 0 0,vi 3 0,vr 15,vb,vi 181 0,vr 16,vn,vr 17,vr 18,vr 19,vi 191 0,vi 1 0,vf 192])::
 (nat_lit 21,of "_wall" "_wall" (TA 0) (TB 0) (TS 0) vn (vs "__main__" 164) (vr 20))::
 (nat_lit 22,ot #[vt "ValueError"])::
 (nat_lit 29,ot #[vs "" 208,vs "scribeerror" 209])::
 (nat_lit 30,ot #[])::
 (nat_lit 32,ot #[vs "self" 213,vs "words" 214,vs "word" 215])::
 (nat_lit 33,ot #[])::
 (nat_lit 35,oc #[vs "__init__" 210,vs "ScribeError.__init__" 211,vf 212,vi 7 0,vi 3 0,vi 0 0,vi 0 0,vi 3 0,vr 30,vb,vi 181 0,vr 31,vn,vr 32,vr 33,vr 34,vi 216 0,vi 7 0,vf 217])::
 (nat_lit 36,of "__init__" "ScribeError.__init__" (MA 2 0) (MB 2 0) (MS 2 0) (vr 29) (vs "lanescribe.errors" 194) (vr 35))::
 (nat_lit 37,ot #[vs "word" 219])::
 (nat_lit 38,{ cls:=vt "dict",data:=Data.dict #[de P "__module__" 203 (vs "lanescribe.errors" 194),de P "__firstlineno__" 207 (vi 5 206),de P "__init__" 218 (vr 36),de P "__static_attributes__" 220 (vr 37),de P "__weakref__" 222 (vr 40),de P "__doc__" 223 (vn)] 3 })::
 (nat_lit 39,{ cls:=vt "type",data:=Data.cls { name:=u "ScribeError",bases:=[vt "ValueError"],mro:=[vr 39,vt "ValueError",vt "Exception",vt "BaseException",vt "object"],ns:=38,qualname:=u "ScribeError",subclasses:=[vr 60,vr 80,vr 100,vr 120,vr 140,vr 160,vr 180] },slots:=#[some (vr 22),none,some (vs "ScribeError" 196),some (vs "ScribeError" 204),some (Value.builtin "ValueError.__new__"),some (vb)] })::
 (nat_lit 40,{ cls:=vt "getset_descriptor",data:=Data.fields #[vs "__weakref__" 221,vr 39,Value.builtin "ExceptionGroup.__weakref__",vn] })::
 (nat_lit 43,ot #[vr 39])::
 (nat_lit 50,ot #[vs "" 238])::
 (nat_lit 51,ot #[])::
 (nat_lit 53,ot #[vs "self" 242,vs "words" 243])::
 (nat_lit 54,ot #[])::
 (nat_lit 56,oc #[vs "__init__" 239,vs "BadName.__init__" 240,vf 241,vi 12 0,vi 2 0,vi 0 0,vi 0 0,vi 3 0,vr 51,vb,vi 181 0,vr 52,vn,vr 53,vr 54,vr 55,vi 244 0,vi 12 0,vf 245])::
 (nat_lit 57,of "__init__" "BadName.__init__" (MA 3 0) (MB 3 0) (MS 3 0) (vr 50) (vs "lanescribe.errors" 194) (vr 56))::
 (nat_lit 58,ot #[])::
 (nat_lit 59,{ cls:=vt "dict",data:=Data.dict #[de P "__module__" 233 (vs "lanescribe.errors" 194),de P "__firstlineno__" 237 (vi 10 236),de P "__init__" 246 (vr 57),de P "__static_attributes__" 247 (vr 58),de P "__doc__" 248 (vn)] 2 })::
 (nat_lit 60,{ cls:=vt "type",data:=Data.cls { name:=u "BadName",bases:=[vr 39],mro:=[vr 60,vr 39,vt "ValueError",vt "Exception",vt "BaseException",vt "object"],ns:=59,qualname:=u "BadName" },slots:=#[some (vr 43),none,some (vs "BadName" 226),some (vs "BadName" 234),some (Value.builtin "ValueError.__new__"),some (vb)] })::
 (nat_lit 63,ot #[vr 39])::
 (nat_lit 70,ot #[vs "" 263])::
 (nat_lit 71,ot #[])::
 (nat_lit 73,ot #[vs "self" 267,vs "words" 268])::
 (nat_lit 74,ot #[])::
 (nat_lit 76,oc #[vs "__init__" 264,vs "BadBounds.__init__" 265,vf 266,vi 16 0,vi 2 0,vi 0 0,vi 0 0,vi 3 0,vr 71,vb,vi 181 0,vr 72,vn,vr 73,vr 74,vr 75,vi 269 0,vi 16 0,vf 270])::
 (nat_lit 77,of "__init__" "BadBounds.__init__" (MA 4 0) (MB 4 0) (MS 4 0) (vr 70) (vs "lanescribe.errors" 194) (vr 76))::
 (nat_lit 78,ot #[])::
 (nat_lit 79,{ cls:=vt "dict",data:=Data.dict #[de P "__module__" 258 (vs "lanescribe.errors" 194),de P "__firstlineno__" 262 (vi 14 261),de P "__init__" 271 (vr 77),de P "__static_attributes__" 272 (vr 78),de P "__doc__" 273 (vn)] 2 })::
 (nat_lit 80,{ cls:=vt "type",data:=Data.cls { name:=u "BadBounds",bases:=[vr 39],mro:=[vr 80,vr 39,vt "ValueError",vt "Exception",vt "BaseException",vt "object"],ns:=79,qualname:=u "BadBounds" },slots:=#[some (vr 63),none,some (vs "BadBounds" 251),some (vs "BadBounds" 259),some (Value.builtin "ValueError.__new__"),some (vb)] })::
 (nat_lit 83,ot #[vr 39])::
 (nat_lit 90,ot #[vs "" 288])::
 (nat_lit 91,ot #[])::
 (nat_lit 93,ot #[vs "self" 292,vs "words" 293])::
 (nat_lit 94,ot #[])::
 (nat_lit 96,oc #[vs "__init__" 289,vs "BadSize.__init__" 290,vf 291,vi 20 0,vi 2 0,vi 0 0,vi 0 0,vi 3 0,vr 91,vb,vi 181 0,vr 92,vn,vr 93,vr 94,vr 95,vi 294 0,vi 20 0,vf 295])::
 (nat_lit 97,of "__init__" "BadSize.__init__" (MA 5 0) (MB 5 0) (MS 5 0) (vr 90) (vs "lanescribe.errors" 194) (vr 96))::
 (nat_lit 98,ot #[])::
 (nat_lit 99,{ cls:=vt "dict",data:=Data.dict #[de P "__module__" 283 (vs "lanescribe.errors" 194),de P "__firstlineno__" 287 (vi 18 286),de P "__init__" 296 (vr 97),de P "__static_attributes__" 297 (vr 98),de P "__doc__" 298 (vn)] 2 })::
 (nat_lit 100,{ cls:=vt "type",data:=Data.cls { name:=u "BadSize",bases:=[vr 39],mro:=[vr 100,vr 39,vt "ValueError",vt "Exception",vt "BaseException",vt "object"],ns:=99,qualname:=u "BadSize" },slots:=#[some (vr 83),none,some (vs "BadSize" 276),some (vs "BadSize" 284),some (Value.builtin "ValueError.__new__"),some (vb)] })::
 (nat_lit 103,ot #[vr 39])::
 (nat_lit 110,ot #[vs "" 313])::
 (nat_lit 111,ot #[])::
 (nat_lit 113,ot #[vs "self" 317,vs "words" 318])::
 (nat_lit 114,ot #[])::
 (nat_lit 116,oc #[vs "__init__" 314,vs "BadTime.__init__" 315,vf 316,vi 24 0,vi 2 0,vi 0 0,vi 0 0,vi 3 0,vr 111,vb,vi 181 0,vr 112,vn,vr 113,vr 114,vr 115,vi 319 0,vi 24 0,vf 320])::
 (nat_lit 117,of "__init__" "BadTime.__init__" (MA 6 0) (MB 6 0) (MS 6 0) (vr 110) (vs "lanescribe.errors" 194) (vr 116))::
 (nat_lit 118,ot #[])::
 (nat_lit 119,{ cls:=vt "dict",data:=Data.dict #[de P "__module__" 308 (vs "lanescribe.errors" 194),de P "__firstlineno__" 312 (vi 22 311),de P "__init__" 321 (vr 117),de P "__static_attributes__" 322 (vr 118),de P "__doc__" 323 (vn)] 2 })::
 (nat_lit 120,{ cls:=vt "type",data:=Data.cls { name:=u "BadTime",bases:=[vr 39],mro:=[vr 120,vr 39,vt "ValueError",vt "Exception",vt "BaseException",vt "object"],ns:=119,qualname:=u "BadTime" },slots:=#[some (vr 103),none,some (vs "BadTime" 301),some (vs "BadTime" 309),some (Value.builtin "ValueError.__new__"),some (vb)] })::
 (nat_lit 123,ot #[vr 39])::
 (nat_lit 130,ot #[vs "" 338])::
 (nat_lit 131,ot #[])::
 (nat_lit 133,ot #[vs "self" 342,vs "words" 343])::
 (nat_lit 134,ot #[])::
 (nat_lit 136,oc #[vs "__init__" 339,vs "Taken.__init__" 340,vf 341,vi 28 0,vi 2 0,vi 0 0,vi 0 0,vi 3 0,vr 131,vb,vi 181 0,vr 132,vn,vr 133,vr 134,vr 135,vi 344 0,vi 28 0,vf 345])::
 (nat_lit 137,of "__init__" "Taken.__init__" (MA 7 0) (MB 7 0) (MS 7 0) (vr 130) (vs "lanescribe.errors" 194) (vr 136))::
 (nat_lit 138,ot #[])::
 (nat_lit 139,{ cls:=vt "dict",data:=Data.dict #[de P "__module__" 333 (vs "lanescribe.errors" 194),de P "__firstlineno__" 337 (vi 26 336),de P "__init__" 346 (vr 137),de P "__static_attributes__" 347 (vr 138),de P "__doc__" 348 (vn)] 2 })::
 (nat_lit 140,{ cls:=vt "type",data:=Data.cls { name:=u "Taken",bases:=[vr 39],mro:=[vr 140,vr 39,vt "ValueError",vt "Exception",vt "BaseException",vt "object"],ns:=139,qualname:=u "Taken" },slots:=#[some (vr 123),none,some (vs "Taken" 326),some (vs "Taken" 334),some (Value.builtin "ValueError.__new__"),some (vb)] })::
 (nat_lit 143,ot #[vr 39])::
 (nat_lit 150,ot #[vs "" 363])::
 (nat_lit 151,ot #[])::
 (nat_lit 153,ot #[vs "self" 367,vs "words" 368])::
 (nat_lit 154,ot #[])::
 (nat_lit 156,oc #[vs "__init__" 364,vs "Full.__init__" 365,vf 366,vi 32 0,vi 2 0,vi 0 0,vi 0 0,vi 3 0,vr 151,vb,vi 181 0,vr 152,vn,vr 153,vr 154,vr 155,vi 369 0,vi 32 0,vf 370])::
 (nat_lit 157,of "__init__" "Full.__init__" (MA 8 0) (MB 8 0) (MS 8 0) (vr 150) (vs "lanescribe.errors" 194) (vr 156))::
 (nat_lit 158,ot #[])::
 (nat_lit 159,{ cls:=vt "dict",data:=Data.dict #[de P "__module__" 358 (vs "lanescribe.errors" 194),de P "__firstlineno__" 362 (vi 30 361),de P "__init__" 371 (vr 157),de P "__static_attributes__" 372 (vr 158),de P "__doc__" 373 (vn)] 2 })::
 (nat_lit 160,{ cls:=vt "type",data:=Data.cls { name:=u "Full",bases:=[vr 39],mro:=[vr 160,vr 39,vt "ValueError",vt "Exception",vt "BaseException",vt "object"],ns:=159,qualname:=u "Full" },slots:=#[some (vr 143),none,some (vs "Full" 351),some (vs "Full" 359),some (Value.builtin "ValueError.__new__"),some (vb)] })::
 (nat_lit 163,ot #[vr 39])::
 (nat_lit 170,ot #[vs "" 388])::
 (nat_lit 171,ot #[])::
 (nat_lit 173,ot #[vs "self" 392,vs "words" 393])::
 (nat_lit 174,ot #[])::
 (nat_lit 176,oc #[vs "__init__" 389,vs "NotTop.__init__" 390,vf 391,vi 36 0,vi 2 0,vi 0 0,vi 0 0,vi 3 0,vr 171,vb,vi 181 0,vr 172,vn,vr 173,vr 174,vr 175,vi 394 0,vi 36 0,vf 395])::
 (nat_lit 177,of "__init__" "NotTop.__init__" (MA 9 0) (MB 9 0) (MS 9 0) (vr 170) (vs "lanescribe.errors" 194) (vr 176))::
 (nat_lit 178,ot #[])::
 (nat_lit 179,{ cls:=vt "dict",data:=Data.dict #[de P "__module__" 383 (vs "lanescribe.errors" 194),de P "__firstlineno__" 387 (vi 34 386),de P "__init__" 396 (vr 177),de P "__static_attributes__" 397 (vr 178),de P "__doc__" 398 (vn)] 2 })::
 (nat_lit 180,{ cls:=vt "type",data:=Data.cls { name:=u "NotTop",bases:=[vr 39],mro:=[vr 180,vr 39,vt "ValueError",vt "Exception",vt "BaseException",vt "object"],ns:=179,qualname:=u "NotTop" },slots:=#[some (vr 163),none,some (vs "NotTop" 376),some (vs "NotTop" 384),some (Value.builtin "ValueError.__new__"),some (vb)] })::
 (nat_lit 183,ot #[vt "LookupError"])::
 (nat_lit 190,ot #[vs "" 413,vs "missing" 414])::
 (nat_lit 191,ot #[])::
 (nat_lit 193,ot #[vs "self" 418,vs "words" 419,vs "word" 420])::
 (nat_lit 194,ot #[])::
 (nat_lit 196,oc #[vs "__init__" 415,vs "Missing.__init__" 416,vf 417,vi 40 0,vi 3 0,vi 0 0,vi 0 0,vi 3 0,vr 191,vb,vi 181 0,vr 192,vn,vr 193,vr 194,vr 195,vi 421 0,vi 40 0,vf 422])::
 (nat_lit 197,of "__init__" "Missing.__init__" (MA 10 0) (MB 10 0) (MS 10 0) (vr 190) (vs "lanescribe.errors" 194) (vr 196))::
 (nat_lit 198,ot #[vs "word" 424])::
 (nat_lit 199,{ cls:=vt "dict",data:=Data.dict #[de P "__module__" 408 (vs "lanescribe.errors" 194),de P "__firstlineno__" 412 (vi 38 411),de P "__init__" 423 (vr 197),de P "__static_attributes__" 425 (vr 198),de P "__weakref__" 427 (vr 201),de P "__doc__" 428 (vn)] 3 })::
 (nat_lit 200,{ cls:=vt "type",data:=Data.cls { name:=u "Missing",bases:=[vt "LookupError"],mro:=[vr 200,vt "LookupError",vt "Exception",vt "BaseException",vt "object"],ns:=199,qualname:=u "Missing",subclasses:=[vr 221] },slots:=#[some (vr 183),none,some (vs "Missing" 401),some (vs "Missing" 409),some (Value.builtin "LookupError.__new__"),some (vb)] })::
 (nat_lit 201,{ cls:=vt "getset_descriptor",data:=Data.fields #[vs "__weakref__" 426,vr 200,Value.builtin "ExceptionGroup.__weakref__",vn] })::
 (nat_lit 204,ot #[vr 200])::
 (nat_lit 211,ot #[vs "" 443])::
 (nat_lit 212,ot #[])::
 (nat_lit 214,ot #[vs "self" 447,vs "words" 448])::
 (nat_lit 215,ot #[])::
 (nat_lit 217,oc #[vs "__init__" 444,vs "NoTicket.__init__" 445,vf 446,vi 45 0,vi 2 0,vi 0 0,vi 0 0,vi 3 0,vr 212,vb,vi 181 0,vr 213,vn,vr 214,vr 215,vr 216,vi 449 0,vi 45 0,vf 450])::
 (nat_lit 218,of "__init__" "NoTicket.__init__" (MA 11 0) (MB 11 0) (MS 11 0) (vr 211) (vs "lanescribe.errors" 194) (vr 217))::
 (nat_lit 219,ot #[])::
 (nat_lit 220,{ cls:=vt "dict",data:=Data.dict #[de P "__module__" 438 (vs "lanescribe.errors" 194),de P "__firstlineno__" 442 (vi 43 441),de P "__init__" 451 (vr 218),de P "__static_attributes__" 452 (vr 219),de P "__doc__" 453 (vn)] 2 })::
 (nat_lit 221,{ cls:=vt "type",data:=Data.cls { name:=u "NoTicket",bases:=[vr 200],mro:=[vr 221,vr 200,vt "LookupError",vt "Exception",vt "BaseException",vt "object"],ns:=220,qualname:=u "NoTicket" },slots:=#[some (vr 204),none,some (vs "NoTicket" 431),some (vs "NoTicket" 439),some (Value.builtin "LookupError.__new__"),some (vb)] })::
 (nat_lit 224,ot #[])::
 (nat_lit 226,ot #[vs "text" 467])::
 (nat_lit 227,ot #[])::
 (nat_lit 229,oc #[vs "is_name" 464,vs "is_name" 465,vf 466,vi 51 0,vi 1 0,vi 0 0,vi 0 0,vi 3 0,vr 224,vb,vi 181 0,vr 225,vn,vr 226,vr 227,vr 228,vi 468 0,vi 51 0,vf 469])::
 (nat_lit 230,of "is_name" "is_name" (TA 16) (TB 16) (TS 16) vn (vs "lanescribe.kinds" 456) (vr 229))::
 (nat_lit 231,ot #[])::
 (nat_lit 233,ot #[vs "text" 474])::
 (nat_lit 234,ot #[])::
 (nat_lit 236,oc #[vs "need_name" 471,vs "need_name" 472,vf 473,vi 53 0,vi 1 0,vi 0 0,vi 0 0,vi 3 0,vr 231,vb,vi 181 0,vr 232,vn,vr 233,vr 234,vr 235,vi 475 0,vi 53 0,vf 476])::
 (nat_lit 237,of "need_name" "need_name" (TA 17) (TB 17) (TS 17) vn (vs "lanescribe.kinds" 456) (vr 236))::
 (nat_lit 238,ot #[])::
 (nat_lit 240,ot #[vs "fields" 481,vs "seen" 482,vs "name" 483,vs "low" 484,vs "high" 485])::
 (nat_lit 241,ot #[])::
 (nat_lit 243,oc #[vs "need_fields" 478,vs "need_fields" 479,vf 480,vi 56 0,vi 1 0,vi 0 0,vi 0 0,vi 3 0,vr 238,vb,vi 181 0,vr 239,vn,vr 240,vr 241,vr 242,vi 486 0,vi 56 0,vf 487])::
 (nat_lit 244,of "need_fields" "need_fields" (TA 18) (TB 18) (TS 18) vn (vs "lanescribe.kinds" 456) (vr 243))::
 (nat_lit 245,ot #[])::
 (nat_lit 248,oc #[vs "bounds_text" 489,vs "bounds_text" 490,vf 491,vi 65 0,vi 1 0,vi 0 0,vi 0 0,vi 3 0,vr 245,vb,vi 181 0,vr 246,vn,vn,vn,vr 247,vi 492 0,vi 65 0,vf 493])::
 (nat_lit 249,of "bounds_text" "bounds_text" (TA 19) (TB 19) (TS 19) vn (vs "lanescribe.kinds" 456) (vr 248))::
 (nat_lit 257,ot #[])::
 (nat_lit 258,ot #[vr 257])::
 (nat_lit 259,ot #[])::
 (nat_lit 261,ot #[vs "self" 510,vs "name" 511,vs "fields" 512])::
 (nat_lit 262,ot #[])::
 (nat_lit 264,oc #[vs "__init__" 507,vs "Kind.__init__" 508,vf 509,vi 69 0,vi 3 0,vi 0 0,vi 0 0,vi 3 0,vr 259,vb,vi 181 0,vr 260,vn,vr 261,vr 262,vr 263,vi 513 0,vi 69 0,vf 514])::
 (nat_lit 265,of "__init__" "Kind.__init__" (MA 20 0) (MB 20 0) (MS 20 0) (vr 258) (vs "lanescribe.kinds" 456) (vr 264))::
 (nat_lit 266,ot #[])::
 (nat_lit 269,oc #[vs "lowest" 516,vs "Kind.lowest" 517,vf 518,vi 77 0,vi 1 0,vi 0 0,vi 0 0,vi 3 0,vr 266,vb,vi 181 0,vr 267,vn,vn,vn,vr 268,vi 519 0,vi 77 0,vf 520])::
 (nat_lit 270,of "lowest" "Kind.lowest" (MA 20 1) (MB 20 1) (MS 20 1) vn (vs "lanescribe.kinds" 456) (vr 269))::
 (nat_lit 271,ot #[])::
 (nat_lit 273,ot #[vs "self" 525])::
 (nat_lit 274,ot #[])::
 (nat_lit 276,oc #[vs "cells" 522,vs "Kind.cells" 523,vf 524,vi 80 0,vi 1 0,vi 0 0,vi 0 0,vi 3 0,vr 271,vb,vi 181 0,vr 272,vn,vr 273,vr 274,vr 275,vi 526 0,vi 80 0,vf 527])::
 (nat_lit 277,of "cells" "Kind.cells" (MA 20 2) (MB 20 2) (MS 20 2) vn (vs "lanescribe.kinds" 456) (vr 276))::
 (nat_lit 278,ot #[])::
 (nat_lit 280,ot #[vs "self" 532,vs "field" 533])::
 (nat_lit 281,ot #[])::
 (nat_lit 283,oc #[vs "place_of" 529,vs "Kind.place_of" 530,vf 531,vi 83 0,vi 2 0,vi 0 0,vi 0 0,vi 3 0,vr 278,vb,vi 181 0,vr 279,vn,vr 280,vr 281,vr 282,vi 534 0,vi 83 0,vf 535])::
 (nat_lit 284,of "place_of" "Kind.place_of" (MA 20 3) (MB 20 3) (MS 20 3) vn (vs "lanescribe.kinds" 456) (vr 283))::
 (nat_lit 285,ot #[])::
 (nat_lit 287,ot #[vs "self" 540,vs "values" 541])::
 (nat_lit 288,ot #[])::
 (nat_lit 290,oc #[vs "need" 537,vs "Kind.need" 538,vf 539,vi 86 0,vi 2 0,vi 0 0,vi 0 0,vi 3 0,vr 285,vb,vi 181 0,vr 286,vn,vr 287,vr 288,vr 289,vi 542 0,vi 86 0,vf 543])::
 (nat_lit 291,of "need" "Kind.need" (MA 20 4) (MB 20 4) (MS 20 4) vn (vs "lanescribe.kinds" 456) (vr 290))::
 (nat_lit 292,ot #[])::
 (nat_lit 294,ot #[vs "self" 548,vs "other" 549])::
 (nat_lit 295,ot #[])::
 (nat_lit 297,oc #[vs "__eq__" 545,vs "Kind.__eq__" 546,vf 547,vi 89 0,vi 2 0,vi 0 0,vi 0 0,vi 3 0,vr 292,vb,vi 181 0,vr 293,vn,vr 294,vr 295,vr 296,vi 550 0,vi 89 0,vf 551])::
 (nat_lit 298,of "__eq__" "Kind.__eq__" (MA 20 5) (MB 20 5) (MS 20 5) vn (vs "lanescribe.kinds" 456) (vr 297))::
 (nat_lit 299,ot #[])::
 (nat_lit 301,ot #[vs "self" 556])::
 (nat_lit 302,ot #[])::
 (nat_lit 304,oc #[vs "__len__" 553,vs "Kind.__len__" 554,vf 555,vi 92 0,vi 1 0,vi 0 0,vi 0 0,vi 3 0,vr 299,vb,vi 181 0,vr 300,vn,vr 301,vr 302,vr 303,vi 557 0,vi 92 0,vf 558])::
 (nat_lit 305,of "__len__" "Kind.__len__" (MA 20 6) (MB 20 6) (MS 20 6) vn (vs "lanescribe.kinds" 456) (vr 304))::
 (nat_lit 306,ot #[])::
 (nat_lit 308,ot #[vs "self" 563])::
 (nat_lit 309,ot #[])::
 (nat_lit 311,oc #[vs "__str__" 560,vs "Kind.__str__" 561,vf 562,vi 95 0,vi 1 0,vi 0 0,vi 0 0,vi 3 0,vr 306,vb,vi 181 0,vr 307,vn,vr 308,vr 309,vr 310,vi 564 0,vi 95 0,vf 565])::
 (nat_lit 312,of "__str__" "Kind.__str__" (MA 20 7) (MB 20 7) (MS 20 7) vn (vs "lanescribe.kinds" 456) (vr 311))::
 (nat_lit 313,ot #[])::
 (nat_lit 315,ot #[vs "self" 570])::
 (nat_lit 316,ot #[])::
 (nat_lit 318,oc #[vs "__repr__" 567,vs "Kind.__repr__" 568,vf 569,vi 98 0,vi 1 0,vi 0 0,vi 0 0,vi 3 0,vr 313,vb,vi 181 0,vr 314,vn,vr 315,vr 316,vr 317,vi 571 0,vi 98 0,vf 572])::
 (nat_lit 319,of "__repr__" "Kind.__repr__" (MA 20 8) (MB 20 8) (MS 20 8) vn (vs "lanescribe.kinds" 456) (vr 318))::
 (nat_lit 320,ot #[vs "fields" 574,vs "name" 575])::
 (nat_lit 321,{ cls:=vt "dict",data:=Data.dict #[de P "__module__" 502 (vs "lanescribe.kinds" 456),de P "__firstlineno__" 506 (vi 67 505),de P "__init__" 515 (vr 265),de P "lowest" 521 (vr 270),de P "cells" 528 (vr 277),de P "place_of" 536 (vr 284),de P "need" 544 (vr 291),de P "__eq__" 552 (vr 298),de P "__len__" 559 (vr 305),de P "__str__" 566 (vr 312),de P "__repr__" 573 (vr 319),de P "__static_attributes__" 576 (vr 320),de P "__dict__" 578 (vr 323),de P "__weakref__" 580 (vr 324),de P "__doc__" 581 (vn),de P "__hash__" 582 (vn)] 5 })::
 (nat_lit 322,{ cls:=vt "type",data:=Data.cls { name:=u "Kind",bases:=[vt "object"],mro:=[vr 322,vt "object"],ns:=321,qualname:=u "Kind" },slots:=#[none,none,some (vs "Kind" 495),some (vs "Kind" 503),some (Value.builtin "object.__new__"),some (vb)] })::
 (nat_lit 323,{ cls:=vt "getset_descriptor",data:=Data.fields #[vs "__dict__" 577,vr 322,Value.builtin "function.__dict__",Value.builtin "function.__dict__#set"] })::
 (nat_lit 324,{ cls:=vt "getset_descriptor",data:=Data.fields #[vs "__weakref__" 579,vr 322,Value.builtin "ExceptionGroup.__weakref__",vn] })::
 (nat_lit 327,ot #[])::
 (nat_lit 329,ot #[vs "pages" 602])::
 (nat_lit 330,ot #[])::
 (nat_lit 332,oc #[vs "need_pages" 599,vs "need_pages" 600,vf 601,vi 107 0,vi 1 0,vi 0 0,vi 0 0,vi 3 0,vr 327,vb,vi 181 0,vr 328,vn,vr 329,vr 330,vr 331,vi 603 0,vi 107 0,vf 604])::
 (nat_lit 333,of "need_pages" "need_pages" (TA 28) (TB 28) (TS 28) vn (vs "lanescribe.lanes" 585) (vr 332))::
 (nat_lit 334,ot #[])::
 (nat_lit 336,ot #[vs "room" 609])::
 (nat_lit 337,ot #[])::
 (nat_lit 339,oc #[vs "need_room" 606,vs "need_room" 607,vf 608,vi 110 0,vi 1 0,vi 0 0,vi 0 0,vi 3 0,vr 334,vb,vi 181 0,vr 335,vn,vr 336,vr 337,vr 338,vi 610 0,vi 110 0,vf 611])::
 (nat_lit 340,of "need_room" "need_room" (TA 29) (TB 29) (TS 29) vn (vs "lanescribe.lanes" 585) (vr 339))::
 (nat_lit 341,ot #[])::
 (nat_lit 343,ot #[vs "events" 616,vs "place" 617,vs "told" 618,vs "event" 619])::
 (nat_lit 344,ot #[])::
 (nat_lit 346,oc #[vs "told_from" 613,vs "told_from" 614,vf 615,vi 113 0,vi 2 0,vi 0 0,vi 0 0,vi 3 0,vr 341,vb,vi 181 0,vr 342,vn,vr 343,vr 344,vr 345,vi 620 0,vi 113 0,vf 621])::
 (nat_lit 347,of "told_from" "told_from" (TA 30) (TB 30) (TS 30) vn (vs "lanescribe.lanes" 585) (vr 346))::
 (nat_lit 348,ot #[])::
 (nat_lit 350,ot #[vs "place" 626,vs "told" 627,vs "thing" 628])::
 (nat_lit 351,ot #[])::
 (nat_lit 353,oc #[vs "place_behind" 623,vs "place_behind" 624,vf 625,vi 122 0,vi 2 0,vi 0 0,vi 0 0,vi 3 0,vr 348,vb,vi 181 0,vr 349,vn,vr 350,vr 351,vr 352,vi 629 0,vi 122 0,vf 630])::
 (nat_lit 354,of "place_behind" "place_behind" (TA 31) (TB 31) (TS 31) vn (vs "lanescribe.lanes" 585) (vr 353))::
 (nat_lit 362,ot #[])::
 (nat_lit 364,ot #[vs "self" 647,vs "ticket" 648,vs "time" 649,vs "kind" 650])::
 (nat_lit 365,ot #[])::
 (nat_lit 367,oc #[vs "__init__" 644,vs "Claim.__init__" 645,vf 646,vi 128 0,vi 4 0,vi 0 0,vi 0 0,vi 3 0,vr 362,vb,vi 181 0,vr 363,vn,vr 364,vr 365,vr 366,vi 651 0,vi 128 0,vf 652])::
 (nat_lit 368,of "__init__" "Claim.__init__" (MA 32 0) (MB 32 0) (MS 32 0) vn (vs "lanescribe.lanes" 585) (vr 367))::
 (nat_lit 369,ot #[])::
 (nat_lit 371,ot #[vs "self" 657,vs "place" 658])::
 (nat_lit 372,ot #[])::
 (nat_lit 374,oc #[vs "told_at" 654,vs "Claim.told_at" 655,vf 656,vi 135 0,vi 2 0,vi 0 0,vi 0 0,vi 3 0,vr 369,vb,vi 181 0,vr 370,vn,vr 371,vr 372,vr 373,vi 659 0,vi 135 0,vf 660])::
 (nat_lit 375,of "told_at" "Claim.told_at" (MA 32 1) (MB 32 1) (MS 32 1) vn (vs "lanescribe.lanes" 585) (vr 374))::
 (nat_lit 376,ot #[])::
 (nat_lit 378,ot #[vs "self" 665])::
 (nat_lit 379,ot #[])::
 (nat_lit 381,oc #[vs "twin" 662,vs "Claim.twin" 663,vf 664,vi 138 0,vi 1 0,vi 0 0,vi 0 0,vi 3 0,vr 376,vb,vi 181 0,vr 377,vn,vr 378,vr 379,vr 380,vi 666 0,vi 138 0,vf 667])::
 (nat_lit 382,of "twin" "Claim.twin" (MA 32 2) (MB 32 2) (MS 32 2) vn (vs "lanescribe.lanes" 585) (vr 381))::
 (nat_lit 383,ot #[vs "filled" 669,vs "form" 670,vs "given" 671,vs "ticket" 672,vs "time" 673])::
 (nat_lit 384,{ cls:=vt "dict",data:=Data.dict #[de P "__module__" 639 (vs "lanescribe.lanes" 585),de P "__firstlineno__" 643 (vi 126 642),de P "__init__" 653 (vr 368),de P "told_at" 661 (vr 375),de P "twin" 668 (vr 382),de P "__static_attributes__" 674 (vr 383),de P "__dict__" 676 (vr 386),de P "__weakref__" 678 (vr 387),de P "__doc__" 679 (vn)] 4 })::
 (nat_lit 385,{ cls:=vt "type",data:=Data.cls { name:=u "Claim",bases:=[vt "object"],mro:=[vr 385,vt "object"],ns:=384,qualname:=u "Claim" },slots:=#[none,none,some (vs "Claim" 632),some (vs "Claim" 640),some (Value.builtin "object.__new__"),some (vb)] })::
 (nat_lit 386,{ cls:=vt "getset_descriptor",data:=Data.fields #[vs "__dict__" 675,vr 385,Value.builtin "function.__dict__",Value.builtin "function.__dict__#set"] })::
 (nat_lit 387,{ cls:=vt "getset_descriptor",data:=Data.fields #[vs "__weakref__" 677,vr 385,Value.builtin "ExceptionGroup.__weakref__",vn] })::
 (nat_lit 397,ot #[])::
 (nat_lit 399,ot #[vs "self" 697])::
 (nat_lit 400,ot #[])::
 (nat_lit 402,oc #[vs "__init__" 694,vs "Page.__init__" 695,vf 696,vi 142 0,vi 1 0,vi 0 0,vi 0 0,vi 3 0,vr 397,vb,vi 181 0,vr 398,vn,vr 399,vr 400,vr 401,vi 698 0,vi 142 0,vf 699])::
 (nat_lit 403,of "__init__" "Page.__init__" (MA 33 0) (MB 33 0) (MS 33 0) vn (vs "lanescribe.lanes" 585) (vr 402))::
 (nat_lit 404,ot #[])::
 (nat_lit 407,oc #[vs "unclosed" 701,vs "Page.unclosed" 702,vf 703,vi 147 0,vi 1 0,vi 0 0,vi 0 0,vi 3 0,vr 404,vb,vi 181 0,vr 405,vn,vn,vn,vr 406,vi 704 0,vi 147 0,vf 705])::
 (nat_lit 408,of "unclosed" "Page.unclosed" (MA 33 1) (MB 33 1) (MS 33 1) vn (vs "lanescribe.lanes" 585) (vr 407))::
 (nat_lit 409,ot #[])::
 (nat_lit 412,oc #[vs "without" 707,vs "Page.without" 708,vf 709,vi 150 0,vi 2 0,vi 0 0,vi 0 0,vi 3 0,vr 409,vb,vi 181 0,vr 410,vn,vn,vn,vr 411,vi 710 0,vi 150 0,vf 711])::
 (nat_lit 413,of "without" "Page.without" (MA 33 2) (MB 33 2) (MS 33 2) vn (vs "lanescribe.lanes" 585) (vr 412))::
 (nat_lit 414,ot #[])::
 (nat_lit 416,ot #[vs "self" 716])::
 (nat_lit 417,ot #[])::
 (nat_lit 419,oc #[vs "twin" 713,vs "Page.twin" 714,vf 715,vi 153 0,vi 1 0,vi 0 0,vi 0 0,vi 3 0,vr 414,vb,vi 181 0,vr 415,vn,vr 416,vr 417,vr 418,vi 717 0,vi 153 0,vf 718])::
 (nat_lit 420,of "twin" "Page.twin" (MA 33 3) (MB 33 3) (MS 33 3) vn (vs "lanescribe.lanes" 585) (vr 419))::
 (nat_lit 421,ot #[vs "claims" 720,vs "gone" 721,vs "used" 722])::
 (nat_lit 422,{ cls:=vt "dict",data:=Data.dict #[de P "__module__" 689 (vs "lanescribe.lanes" 585),de P "__firstlineno__" 693 (vi 140 692),de P "__init__" 700 (vr 403),de P "unclosed" 706 (vr 408),de P "without" 712 (vr 413),de P "twin" 719 (vr 420),de P "__static_attributes__" 723 (vr 421),de P "__dict__" 725 (vr 424),de P "__weakref__" 727 (vr 425),de P "__doc__" 728 (vn)] 4 })::
 (nat_lit 423,{ cls:=vt "type",data:=Data.cls { name:=u "Page",bases:=[vt "object"],mro:=[vr 423,vt "object"],ns:=422,qualname:=u "Page" },slots:=#[none,none,some (vs "Page" 682),some (vs "Page" 690),some (Value.builtin "object.__new__"),some (vb)] })::
 (nat_lit 424,{ cls:=vt "getset_descriptor",data:=Data.fields #[vs "__dict__" 724,vr 423,Value.builtin "function.__dict__",Value.builtin "function.__dict__#set"] })::
 (nat_lit 425,{ cls:=vt "getset_descriptor",data:=Data.fields #[vs "__weakref__" 726,vr 423,Value.builtin "ExceptionGroup.__weakref__",vn] })::
 (nat_lit 435,{ cls:=vt "dict",data:=Data.dict #[de P "pages" 743 (vi 4 587),de P "room" 744 (vi 8 589),de P "over" 745 (vb)] 3 })::
 (nat_lit 436,ot #[])::
 (nat_lit 438,ot #[vs "self" 749,vs "pages" 750,vs "room" 751,vs "over" 752])::
 (nat_lit 439,ot #[])::
 (nat_lit 441,oc #[vs "__init__" 746,vs "Lane.__init__" 747,vf 748,vi 157 0,vi 1 0,vi 0 0,vi 3 0,vi 3 0,vr 436,vb,vi 181 0,vr 437,vn,vr 438,vr 439,vr 440,vi 753 0,vi 157 0,vf 754])::
 (nat_lit 442,{ cls:=vt "function",data:=Data.func { name:=u "__init__",qualname:=u "Lane.__init__",params:=MA 34 0,body:=FuncBody.stmts (MB 34 0),scope:=MS 34 0,globals:=3,closure:=[],defaults:=vn,kwdefaults:=vr 435,pyModule:=vs "lanescribe.lanes" 585,code:=vr 441 } })::
 (nat_lit 443,ot #[])::
 (nat_lit 445,ot #[vs "self" 759,vs "kind" 760,vs "time" 761,vs "head" 762])::
 (nat_lit 446,ot #[])::
 (nat_lit 448,oc #[vs "claim" 756,vs "Lane.claim" 757,vf 758,vi 173 0,vi 3 0,vi 0 0,vi 0 0,vi 3 0,vr 443,vb,vi 181 0,vr 444,vn,vr 445,vr 446,vr 447,vi 763 0,vi 173 0,vf 764])::
 (nat_lit 449,of "claim" "Lane.claim" (MA 34 1) (MB 34 1) (MS 34 1) vn (vs "lanescribe.lanes" 585) (vr 448))::
 (nat_lit 450,ot #[])::
 (nat_lit 452,ot #[vs "self" 769,vs "cells" 770])::
 (nat_lit 453,ot #[])::
 (nat_lit 455,oc #[vs "make_room" 766,vs "Lane.make_room" 767,vf 768,vi 186 0,vi 2 0,vi 0 0,vi 0 0,vi 3 0,vr 450,vb,vi 181 0,vr 451,vn,vr 452,vr 453,vr 454,vi 771 0,vi 186 0,vf 772])::
 (nat_lit 456,of "make_room" "Lane.make_room" (MA 34 2) (MB 34 2) (MS 34 2) vn (vs "lanescribe.lanes" 585) (vr 455))::
 (nat_lit 457,ot #[])::
 (nat_lit 459,ot #[vs "self" 777])::
 (nat_lit 460,ot #[])::
 (nat_lit 462,oc #[vs "eldest" 774,vs "Lane.eldest" 775,vf 776,vi 196 0,vi 1 0,vi 0 0,vi 0 0,vi 3 0,vr 457,vb,vi 181 0,vr 458,vn,vr 459,vr 460,vr 461,vi 778 0,vi 196 0,vf 779])::
 (nat_lit 463,of "eldest" "Lane.eldest" (MA 34 3) (MB 34 3) (MS 34 3) vn (vs "lanescribe.lanes" 585) (vr 462))::
 (nat_lit 464,ot #[])::
 (nat_lit 466,ot #[vs "self" 784])::
 (nat_lit 467,ot #[])::
 (nat_lit 469,oc #[vs "lose_eldest" 781,vs "Lane.lose_eldest" 782,vf 783,vi 199 0,vi 1 0,vi 0 0,vi 0 0,vi 3 0,vr 464,vb,vi 181 0,vr 465,vn,vr 466,vr 467,vr 468,vi 785 0,vi 199 0,vf 786])::
 (nat_lit 470,of "lose_eldest" "Lane.lose_eldest" (MA 34 4) (MB 34 4) (MS 34 4) vn (vs "lanescribe.lanes" 585) (vr 469))::
 (nat_lit 471,ot #[])::
 (nat_lit 473,ot #[vs "self" 791,vs "number" 792,vs "page" 793,vs "later" 794])::
 (nat_lit 474,ot #[])::
 (nat_lit 476,oc #[vs "leave" 788,vs "Lane.leave" 789,vf 790,vi 203 0,vi 2 0,vi 0 0,vi 0 0,vi 3 0,vr 471,vb,vi 181 0,vr 472,vn,vr 473,vr 474,vr 475,vi 795 0,vi 203 0,vf 796])::
 (nat_lit 477,of "leave" "Lane.leave" (MA 34 5) (MB 34 5) (MS 34 5) vn (vs "lanescribe.lanes" 585) (vr 476))::
 (nat_lit 478,ot #[])::
 (nat_lit 481,oc #[vs "waiting" 798,vs "Lane.waiting" 799,vf 800,vi 208 0,vi 1 0,vi 0 0,vi 0 0,vi 3 0,vr 478,vb,vi 181 0,vr 479,vn,vn,vn,vr 480,vi 801 0,vi 208 0,vf 802])::
 (nat_lit 482,of "waiting" "Lane.waiting" (MA 34 6) (MB 34 6) (MS 34 6) vn (vs "lanescribe.lanes" 585) (vr 481))::
 (nat_lit 483,ot #[])::
 (nat_lit 485,ot #[vs "self" 807,vs "ticket" 808,vs "claim" 809])::
 (nat_lit 486,ot #[])::
 (nat_lit 488,oc #[vs "waiting_with" 804,vs "Lane.waiting_with" 805,vf 806,vi 211 0,vi 2 0,vi 0 0,vi 0 0,vi 3 0,vr 483,vb,vi 181 0,vr 484,vn,vr 485,vr 486,vr 487,vi 810 0,vi 211 0,vf 811])::
 (nat_lit 489,of "waiting_with" "Lane.waiting_with" (MA 34 7) (MB 34 7) (MS 34 7) vn (vs "lanescribe.lanes" 585) (vr 488))::
 (nat_lit 490,ot #[])::
 (nat_lit 492,ot #[vs "self" 816,vs "ticket" 817,vs "claim" 818])::
 (nat_lit 493,ot #[])::
 (nat_lit 495,oc #[vs "last_waiting" 813,vs "Lane.last_waiting" 814,vf 815,vi 217 0,vi 2 0,vi 0 0,vi 0 0,vi 3 0,vr 490,vb,vi 181 0,vr 491,vn,vr 492,vr 493,vr 494,vi 819 0,vi 217 0,vf 820])::
 (nat_lit 496,of "last_waiting" "Lane.last_waiting" (MA 34 8) (MB 34 8) (MS 34 8) vn (vs "lanescribe.lanes" 585) (vr 495))::
 (nat_lit 497,ot #[])::
 (nat_lit 499,ot #[vs "self" 825,vs "ticket" 826,vs "values" 827])::
 (nat_lit 500,ot #[])::
 (nat_lit 502,oc #[vs "fill" 822,vs "Lane.fill" 823,vf 824,vi 223 0,vi 3 0,vi 0 0,vi 0 0,vi 3 0,vr 497,vb,vi 181 0,vr 498,vn,vr 499,vr 500,vr 501,vi 828 0,vi 223 0,vf 829])::
 (nat_lit 503,of "fill" "Lane.fill" (MA 34 9) (MB 34 9) (MS 34 9) vn (vs "lanescribe.lanes" 585) (vr 502))::
 (nat_lit 504,ot #[])::
 (nat_lit 506,ot #[vs "self" 834,vs "ticket" 835,vs "claim" 836])::
 (nat_lit 507,ot #[])::
 (nat_lit 509,oc #[vs "give" 831,vs "Lane.give" 832,vf 833,vi 226 0,vi 2 0,vi 0 0,vi 0 0,vi 3 0,vr 504,vb,vi 181 0,vr 505,vn,vr 506,vr 507,vr 508,vi 837 0,vi 226 0,vf 838])::
 (nat_lit 510,of "give" "Lane.give" (MA 34 10) (MB 34 10) (MS 34 10) vn (vs "lanescribe.lanes" 585) (vr 509))::
 (nat_lit 511,ot #[])::
 (nat_lit 513,ot #[vs "self" 843,vs "ticket" 844,vs "claim" 845,vs "head" 846,vs "page" 847])::
 (nat_lit 514,ot #[])::
 (nat_lit 516,oc #[vs "throw" 840,vs "Lane.throw" 841,vf 842,vi 231 0,vi 2 0,vi 0 0,vi 0 0,vi 3 0,vr 511,vb,vi 181 0,vr 512,vn,vr 513,vr 514,vr 515,vi 848 0,vi 231 0,vf 849])::
 (nat_lit 517,of "throw" "Lane.throw" (MA 34 11) (MB 34 11) (MS 34 11) vn (vs "lanescribe.lanes" 585) (vr 516))::
 (nat_lit 518,ot #[])::
 (nat_lit 520,ot #[vs "self" 854,vs "events" 855,vs "place" 856,vs "page" 857,vs "claim" 858])::
 (nat_lit 521,ot #[])::
 (nat_lit 523,oc #[vs "standing" 851,vs "Lane.standing" 852,vf 853,vi 240 0,vi 1 0,vi 0 0,vi 0 0,vi 3 0,vr 518,vb,vi 181 0,vr 519,vn,vr 520,vr 521,vr 522,vi 859 0,vi 240 0,vf 860])::
 (nat_lit 524,of "standing" "Lane.standing" (MA 34 12) (MB 34 12) (MS 34 12) vn (vs "lanescribe.lanes" 585) (vr 523))::
 (nat_lit 525,ot #[])::
 (nat_lit 527,ot #[vs "self" 865])::
 (nat_lit 528,ot #[])::
 (nat_lit 530,oc #[vs "look" 862,vs "Lane.look" 863,vf 864,vi 252 0,vi 1 0,vi 0 0,vi 0 0,vi 3 0,vr 525,vb,vi 181 0,vr 526,vn,vr 527,vr 528,vr 529,vi 866 0,vi 252 0,vf 867])::
 (nat_lit 531,of "look" "Lane.look" (MA 34 13) (MB 34 13) (MS 34 13) vn (vs "lanescribe.lanes" 585) (vr 530))::
 (nat_lit 532,ot #[])::
 (nat_lit 534,ot #[vs "self" 872,vs "told" 873])::
 (nat_lit 535,ot #[])::
 (nat_lit 537,oc #[vs "take" 869,vs "Lane.take" 870,vf 871,vi 255 0,vi 1 0,vi 0 0,vi 0 0,vi 3 0,vr 532,vb,vi 181 0,vr 533,vn,vr 534,vr 535,vr 536,vi 874 0,vi 255 0,vf 875])::
 (nat_lit 538,of "take" "Lane.take" (MA 34 14) (MB 34 14) (MS 34 14) vn (vs "lanescribe.lanes" 585) (vr 537))::
 (nat_lit 539,ot #[])::
 (nat_lit 541,ot #[vs "self" 880,vs "place" 881])::
 (nat_lit 542,ot #[])::
 (nat_lit 544,oc #[vs "hold" 877,vs "Lane.hold" 878,vf 879,vi 264 0,vi 2 0,vi 0 0,vi 0 0,vi 3 0,vr 539,vb,vi 181 0,vr 540,vn,vr 541,vr 542,vr 543,vi 882 0,vi 264 0,vf 883])::
 (nat_lit 545,of "hold" "Lane.hold" (MA 34 15) (MB 34 15) (MS 34 15) vn (vs "lanescribe.lanes" 585) (vr 544))::
 (nat_lit 546,ot #[])::
 (nat_lit 548,ot #[vs "self" 888])::
 (nat_lit 549,ot #[])::
 (nat_lit 551,oc #[vs "pending" 885,vs "Lane.pending" 886,vf 887,vi 269 0,vi 1 0,vi 0 0,vi 0 0,vi 3 0,vr 546,vb,vi 181 0,vr 547,vn,vr 548,vr 549,vr 550,vi 889 0,vi 269 0,vf 890])::
 (nat_lit 552,of "pending" "Lane.pending" (MA 34 16) (MB 34 16) (MS 34 16) vn (vs "lanescribe.lanes" 585) (vr 551))::
 (nat_lit 553,ot #[])::
 (nat_lit 555,ot #[vs "self" 895,vs "ticket" 896,vs "claim" 897])::
 (nat_lit 556,ot #[])::
 (nat_lit 558,oc #[vs "event" 892,vs "Lane.event" 893,vf 894,vi 272 0,vi 2 0,vi 0 0,vi 0 0,vi 3 0,vr 553,vb,vi 181 0,vr 554,vn,vr 555,vr 556,vr 557,vi 898 0,vi 272 0,vf 899])::
 (nat_lit 559,of "event" "Lane.event" (MA 34 17) (MB 34 17) (MS 34 17) vn (vs "lanescribe.lanes" 585) (vr 558))::
 (nat_lit 560,ot #[])::
 (nat_lit 562,ot #[vs "self" 904,vs "pages" 905])::
 (nat_lit 563,ot #[])::
 (nat_lit 565,oc #[vs "resize" 901,vs "Lane.resize" 902,vf 903,vi 276 0,vi 2 0,vi 0 0,vi 0 0,vi 3 0,vr 560,vb,vi 181 0,vr 561,vn,vr 562,vr 563,vr 564,vi 906 0,vi 276 0,vf 907])::
 (nat_lit 566,of "resize" "Lane.resize" (MA 34 18) (MB 34 18) (MS 34 18) vn (vs "lanescribe.lanes" 585) (vr 565))::
 (nat_lit 567,ot #[])::
 (nat_lit 569,ot #[vs "self" 912])::
 (nat_lit 570,ot #[])::
 (nat_lit 572,oc #[vs "counts" 909,vs "Lane.counts" 910,vf 911,vi 279 0,vi 1 0,vi 0 0,vi 0 0,vi 3 0,vr 567,vb,vi 181 0,vr 568,vn,vr 569,vr 570,vr 571,vi 913 0,vi 279 0,vf 914])::
 (nat_lit 573,of "counts" "Lane.counts" (MA 34 19) (MB 34 19) (MS 34 19) vn (vs "lanescribe.lanes" 585) (vr 572))::
 (nat_lit 574,ot #[])::
 (nat_lit 576,ot #[vs "self" 919])::
 (nat_lit 577,ot #[])::
 (nat_lit 579,oc #[vs "pages_now" 916,vs "Lane.pages_now" 917,vf 918,vi 282 0,vi 1 0,vi 0 0,vi 0 0,vi 3 0,vr 574,vb,vi 181 0,vr 575,vn,vr 576,vr 577,vr 578,vi 920 0,vi 282 0,vf 921])::
 (nat_lit 580,of "pages_now" "Lane.pages_now" (MA 34 20) (MB 34 20) (MS 34 20) vn (vs "lanescribe.lanes" 585) (vr 579))::
 (nat_lit 581,ot #[])::
 (nat_lit 583,ot #[vs "self" 926])::
 (nat_lit 584,ot #[])::
 (nat_lit 586,oc #[vs "twin" 923,vs "Lane.twin" 924,vf 925,vi 285 0,vi 1 0,vi 0 0,vi 0 0,vi 3 0,vr 581,vb,vi 181 0,vr 582,vn,vr 583,vr 584,vr 585,vi 927 0,vi 285 0,vf 928])::
 (nat_lit 587,of "twin" "Lane.twin" (MA 34 21) (MB 34 21) (MS 34 21) vn (vs "lanescribe.lanes" 585) (vr 586))::
 (nat_lit 588,ot #[])::
 (nat_lit 591,oc #[vs "__len__" 930,vs "Lane.__len__" 931,vf 932,vi 288 0,vi 1 0,vi 0 0,vi 0 0,vi 3 0,vr 588,vb,vi 181 0,vr 589,vn,vn,vn,vr 590,vi 933 0,vi 288 0,vf 934])::
 (nat_lit 592,of "__len__" "Lane.__len__" (MA 34 22) (MB 34 22) (MS 34 22) vn (vs "lanescribe.lanes" 585) (vr 591))::
 (nat_lit 593,ot #[])::
 (nat_lit 595,ot #[vs "self" 939])::
 (nat_lit 596,ot #[])::
 (nat_lit 598,oc #[vs "__repr__" 936,vs "Lane.__repr__" 937,vf 938,vi 291 0,vi 1 0,vi 0 0,vi 0 0,vi 3 0,vr 593,vb,vi 181 0,vr 594,vn,vr 595,vr 596,vr 597,vi 940 0,vi 291 0,vf 941])::
 (nat_lit 599,of "__repr__" "Lane.__repr__" (MA 34 23) (MB 34 23) (MS 34 23) vn (vs "lanescribe.lanes" 585) (vr 598))::
 (nat_lit 600,ot #[vs "given_in" 943,vs "held" 944,vs "last_time" 945,vs "lost" 946,vs "missed" 947,vs "most" 948,vs "over" 949,vs "pages" 950,vs "room" 951,vs "thrown_back" 952,vs "tickets" 953,vs "told" 954])::
 (nat_lit 601,{ cls:=vt "dict",data:=Data.dict #[de P "__module__" 738 (vs "lanescribe.lanes" 585),de P "__firstlineno__" 742 (vi 155 741),de P "__init__" 755 (vr 442),de P "claim" 765 (vr 449),de P "make_room" 773 (vr 456),de P "eldest" 780 (vr 463),de P "lose_eldest" 787 (vr 470),de P "leave" 797 (vr 477),de P "waiting" 803 (vr 482),de P "waiting_with" 812 (vr 489),de P "last_waiting" 821 (vr 496),de P "fill" 830 (vr 503),de P "give" 839 (vr 510),de P "throw" 850 (vr 517),de P "standing" 861 (vr 524),de P "look" 868 (vr 531),de P "take" 876 (vr 538),de P "hold" 884 (vr 545),de P "pending" 891 (vr 552),de P "event" 900 (vr 559),de P "resize" 908 (vr 566),de P "counts" 915 (vr 573),de P "pages_now" 922 (vr 580),de P "twin" 929 (vr 587),de P "__len__" 935 (vr 592),de P "__repr__" 942 (vr 599),de P "__static_attributes__" 955 (vr 600),de P "__dict__" 957 (vr 603),de P "__weakref__" 959 (vr 604),de P "__doc__" 960 (vn)] 4 })::
 (nat_lit 602,{ cls:=vt "type",data:=Data.cls { name:=u "Lane",bases:=[vt "object"],mro:=[vr 602,vt "object"],ns:=601,qualname:=u "Lane" },slots:=#[none,none,some (vs "Lane" 731),some (vs "Lane" 739),some (Value.builtin "object.__new__"),some (vb)] })::
 (nat_lit 603,{ cls:=vt "getset_descriptor",data:=Data.fields #[vs "__dict__" 956,vr 602,Value.builtin "function.__dict__",Value.builtin "function.__dict__#set"] })::
 (nat_lit 604,{ cls:=vt "getset_descriptor",data:=Data.fields #[vs "__weakref__" 958,vr 602,Value.builtin "ExceptionGroup.__weakref__",vn] })::
 (nat_lit 614,ot #[])::
 (nat_lit 616,ot #[vs "self" 982,vs "lane" 983])::
 (nat_lit 617,ot #[])::
 (nat_lit 619,oc #[vs "__init__" 979,vs "Looker.__init__" 980,vf 981,vi 297 0,vi 2 0,vi 0 0,vi 0 0,vi 3 0,vr 614,vb,vi 181 0,vr 615,vn,vr 616,vr 617,vr 618,vi 984 0,vi 297 0,vf 985])::
 (nat_lit 620,of "__init__" "Looker.__init__" (MA 37 0) (MB 37 0) (MS 37 0) vn (vs "lanescribe.lookers" 963) (vr 619))::
 (nat_lit 621,{ cls:=vt "dict",data:=Data.dict #[de P "most" 987 (vi 400 965)] 1 })::
 (nat_lit 622,ot #[])::
 (nat_lit 624,ot #[vs "self" 991,vs "most" 992,vs "told" 993])::
 (nat_lit 625,ot #[])::
 (nat_lit 627,oc #[vs "more" 988,vs "Looker.more" 989,vf 990,vi 301 0,vi 1 0,vi 0 0,vi 1 0,vi 3 0,vr 622,vb,vi 181 0,vr 623,vn,vr 624,vr 625,vr 626,vi 994 0,vi 301 0,vf 995])::
 (nat_lit 628,{ cls:=vt "function",data:=Data.func { name:=u "more",qualname:=u "Looker.more",params:=MA 37 1,body:=FuncBody.stmts (MB 37 1),scope:=MS 37 1,globals:=3,closure:=[],defaults:=vn,kwdefaults:=vr 621,pyModule:=vs "lanescribe.lookers" 963,code:=vr 627 } })::
 (nat_lit 629,ot #[])::
 (nat_lit 631,ot #[vs "self" 1000])::
 (nat_lit 632,ot #[])::
 (nat_lit 634,oc #[vs "place" 997,vs "Looker.place" 998,vf 999,vi 308 0,vi 1 0,vi 0 0,vi 0 0,vi 3 0,vr 629,vb,vi 181 0,vr 630,vn,vr 631,vr 632,vr 633,vi 1001 0,vi 308 0,vf 1002])::
 (nat_lit 635,of "place" "Looker.place" (MA 37 2) (MB 37 2) (MS 37 2) vn (vs "lanescribe.lookers" 963) (vr 634))::
 (nat_lit 636,ot #[vi 0 1004])::
 (nat_lit 637,ot #[])::
 (nat_lit 639,ot #[vs "self" 1008,vs "place" 1009])::
 (nat_lit 640,ot #[])::
 (nat_lit 642,oc #[vs "back" 1005,vs "Looker.back" 1006,vf 1007,vi 311 0,vi 2 0,vi 0 0,vi 0 0,vi 3 0,vr 637,vb,vi 181 0,vr 638,vn,vr 639,vr 640,vr 641,vi 1010 0,vi 311 0,vf 1011])::
 (nat_lit 643,of "back" "Looker.back" (MA 37 3) (MB 37 3) (MS 37 3) (vr 636) (vs "lanescribe.lookers" 963) (vr 642))::
 (nat_lit 644,ot #[vs "reached" 1013,vs "watched" 1014])::
 (nat_lit 645,{ cls:=vt "dict",data:=Data.dict #[de P "__module__" 974 (vs "lanescribe.lookers" 963),de P "__firstlineno__" 978 (vi 295 977),de P "__init__" 986 (vr 620),de P "more" 996 (vr 628),de P "place" 1003 (vr 635),de P "back" 1012 (vr 643),de P "__static_attributes__" 1015 (vr 644),de P "__dict__" 1017 (vr 647),de P "__weakref__" 1019 (vr 648),de P "__doc__" 1020 (vn)] 4 })::
 (nat_lit 646,{ cls:=vt "type",data:=Data.cls { name:=u "Looker",bases:=[vt "object"],mro:=[vr 646,vt "object"],ns:=645,qualname:=u "Looker" },slots:=#[none,none,some (vs "Looker" 967),some (vs "Looker" 975),some (Value.builtin "object.__new__"),some (vb)] })::
 (nat_lit 647,{ cls:=vt "getset_descriptor",data:=Data.fields #[vs "__dict__" 1016,vr 646,Value.builtin "function.__dict__",Value.builtin "function.__dict__#set"] })::
 (nat_lit 648,{ cls:=vt "getset_descriptor",data:=Data.fields #[vs "__weakref__" 1018,vr 646,Value.builtin "ExceptionGroup.__weakref__",vn] })::
 (nat_lit 651,ot #[])::
 (nat_lit 653,ot #[vs "_law_script" 1028,vs "_law_seed" 1029,vs "_law_cell" 1030])::
 (nat_lit 654,ot #[])::
 (nat_lit 656,oc #[vs "_law_begin" 1025,vs "_law_begin" 1026,vf 1027,vi 316 0,vi 1 0,vi 0 0,vi 0 0,vi 3 0,vr 651,vb,vi 181 0,vr 652,vn,vr 653,vr 654,vr 655,vi 1031 0,vi 316 0,vf 1032])::
 (nat_lit 657,of "_law_begin" "_law_begin" (TA 39) (TB 39) (TS 39) vn (vs "law_lanescribe_k17_whole_readers_stop_no_wri" 1023) (vr 656))::
 (nat_lit 658,ot #[])::
 (nat_lit 660,ot #[vs "_law_d" 1037,vs "_law_many" 1038,vs "_law_cell" 1039,vs "_law_digit" 1040,vs "_law_one" 1041])::
 (nat_lit 661,ot #[])::
 (nat_lit 663,oc #[vs "_law_pick" 1034,vs "_law_pick" 1035,vf 1036,vi 321 0,vi 2 0,vi 0 0,vi 0 0,vi 3 0,vr 658,vb,vi 181 0,vr 659,vn,vr 660,vr 661,vr 662,vi 1042 0,vi 321 0,vf 1043])::
 (nat_lit 664,of "_law_pick" "_law_pick" (TA 40) (TB 40) (TS 40) vn (vs "law_lanescribe_k17_whole_readers_stop_no_wri" 1023) (vr 663))::
 (nat_lit 665,ot #[])::
 (nat_lit 667,ot #[vs "_law_d" 1048,vs "_law_things" 1049])::
 (nat_lit 668,ot #[])::
 (nat_lit 670,oc #[vs "_law_of" 1045,vs "_law_of" 1046,vf 1047,vi 336 0,vi 2 0,vi 0 0,vi 0 0,vi 3 0,vr 665,vb,vi 181 0,vr 666,vn,vr 667,vr 668,vr 669,vi 1050 0,vi 336 0,vf 1051])::
 (nat_lit 671,of "_law_of" "_law_of" (TA 41) (TB 41) (TS 41) vn (vs "law_lanescribe_k17_whole_readers_stop_no_wri" 1023) (vr 670))::
 (nat_lit 672,ot #[])::
 (nat_lit 675,oc #[vs "_law_word" 1053,vs "_law_word" 1054,vf 1055,vi 338 0,vi 1 0,vi 0 0,vi 0 0,vi 3 0,vr 672,vb,vi 181 0,vr 673,vn,vn,vn,vr 674,vi 1056 0,vi 338 0,vf 1057])::
 (nat_lit 676,of "_law_word" "_law_word" (TA 42) (TB 42) (TS 42) vn (vs "law_lanescribe_k17_whole_readers_stop_no_wri" 1023) (vr 675))::
 (nat_lit 677,ot #[])::
 (nat_lit 679,ot #[vs "_law_d" 1062,vs "_law_many" 1063,vs "_law_found" 1064,vs "_law_k" 1065,vs "_law_word_here" 1066,vs "_law_step" 1067])::
 (nat_lit 680,ot #[])::
 (nat_lit 682,oc #[vs "_law_words" 1059,vs "_law_words" 1060,vf 1061,vi 344 0,vi 2 0,vi 0 0,vi 0 0,vi 3 0,vr 677,vb,vi 181 0,vr 678,vn,vr 679,vr 680,vr 681,vi 1068 0,vi 344 0,vf 1069])::
 (nat_lit 683,of "_law_words" "_law_words" (TA 43) (TB 43) (TS 43) vn (vs "law_lanescribe_k17_whole_readers_stop_no_wri" 1023) (vr 682))::
 (nat_lit 684,ot #[])::
 (nat_lit 686,ot #[vs "_law_d" 1074,vs "_law_near" 1075])::
 (nat_lit 687,ot #[])::
 (nat_lit 689,oc #[vs "_law_bound" 1071,vs "_law_bound" 1072,vf 1073,vi 353 0,vi 1 0,vi 0 0,vi 0 0,vi 3 0,vr 684,vb,vi 181 0,vr 685,vn,vr 686,vr 687,vr 688,vi 1076 0,vi 353 0,vf 1077])::
 (nat_lit 690,of "_law_bound" "_law_bound" (TA 44) (TB 44) (TS 44) vn (vs "law_lanescribe_k17_whole_readers_stop_no_wri" 1023) (vr 689))::
 (nat_lit 691,ot #[])::
 (nat_lit 693,ot #[vs "_law_d" 1082,vs "_law_many" 1083,vs "_law_names" 1084,vs "_law_found" 1085,vs "_law_title" 1086,vs "_law_low" 1087,vs "_law_high" 1088])::
 (nat_lit 694,ot #[])::
 (nat_lit 696,oc #[vs "_law_fields" 1079,vs "_law_fields" 1080,vf 1081,vi 356 0,vi 2 0,vi 0 0,vi 0 0,vi 3 0,vr 691,vb,vi 181 0,vr 692,vn,vr 693,vr 694,vr 695,vi 1089 0,vi 356 0,vf 1090])::
 (nat_lit 697,of "_law_fields" "_law_fields" (TA 45) (TB 45) (TS 45) vn (vs "law_lanescribe_k17_whole_readers_stop_no_wri" 1023) (vr 696))::
 (nat_lit 698,ot #[])::
 (nat_lit 701,oc #[vs "_law_kinds_for" 1092,vs "_law_kinds_for" 1093,vf 1094,vi 364 0,vi 1 0,vi 0 0,vi 0 0,vi 3 0,vr 698,vb,vi 181 0,vr 699,vn,vn,vn,vr 700,vi 1095 0,vi 364 0,vf 1096])::
 (nat_lit 702,of "_law_kinds_for" "_law_kinds_for" (TA 46) (TB 46) (TS 46) vn (vs "law_lanescribe_k17_whole_readers_stop_no_wri" 1023) (vr 701))::
 (nat_lit 703,ot #[])::
 (nat_lit 705,ot #[vs "_law_found" 1101])::
 (nat_lit 706,ot #[])::
 (nat_lit 708,oc #[vs "_law_num" 1098,vs "_law_num" 1099,vf 1100,vi 367 0,vi 1 0,vi 0 0,vi 0 0,vi 3 0,vr 703,vb,vi 181 0,vr 704,vn,vr 705,vr 706,vr 707,vi 1102 0,vi 367 0,vf 1103])::
 (nat_lit 709,of "_law_num" "_law_num" (TA 47) (TB 47) (TS 47) vn (vs "law_lanescribe_k17_whole_readers_stop_no_wri" 1023) (vr 708))::
 (nat_lit 710,ot #[])::
 (nat_lit 713,oc #[vs "law" 1105,vs "law" 1106,vf 1107,vi 369 0,vi 1 0,vi 0 0,vi 0 0,vi 3 0,vr 710,vb,vi 181 0,vr 711,vn,vn,vn,vr 712,vi 1108 0,vi 369 0,vf 1109])::
 (nat_lit 714,of "law" "law" (TA 48) (TB 48) (TS 48) vn (vs "law_lanescribe_k17_whole_readers_stop_no_wri" 1023) (vr 713))::[]
def asK:List Addr:=[2,3,15,17,18,20,21,22,29,30,32,33,35,36,37,38,39,40,43,50,51,53,54,56,57,58,59,60,63,70,71,73,74,76,77,78,79,80,83,90,91,93,94,96,97,98,99,100,103,110,111,113,114,116,117,118,119,120,123,130,131,133,134,136,137,138,139,140,143,150,151,153,154,156,157,158,159,160,163,170,171,173,174,176,177,178,179,180,183,190,191,193,194,196,197,198,199,200,201,204,211,212,214,215,217,218,219,220,221,224,226,227,229,230,231,233,234,236,237,238,240,241,243,244,245,248,249,257,258,259,261,262,264,265,266,269,270,271,273,274,276,277,278,280,281,283,284,285,287,288,290,291,292,294,295,297,298,299,301,302,304,305,306,308,309,311,312,313,315,316,318,319,320,321,322,323,324,327,329,330,332,333,334,336,337,339,340,341,343,344,346,347,348,350,351,353,354,362,364,365,367,368,369,371,372,374,375,376,378,379,381,382,383,384,385,386,387,397,399,400,402,403,404,407,408,409,412,413,414,416,417,419,420,421,422,423,424,425,435,436,438,439,441,442,443,445,446,448,449,450,452,453,455,456,457,459,460,462,463,464,466,467,469,470,471,473,474,476,477,478,481,482,483,485,486,488,489,490,492,493,495,496,497,499,500,502,503,504,506,507,509,510,511,513,514,516,517,518,520,521,523,524,525,527,528,530,531,532,534,535,537,538,539,541,542,544,545,546,548,549,551,552,553,555,556,558,559,560,562,563,565,566,567,569,570,572,573,574,576,577,579,580,581,583,584,586,587,588,591,592,593,595,596,598,599,600,601,602,603,604,614,616,617,619,620,621,622,624,625,627,628,629,631,632,634,635,636,637,639,640,642,643,644,645,646,647,648,651,653,654,656,657,658,660,661,663,664,665,667,668,670,671,672,675,676,677,679,680,682,683,684,686,687,689,690,691,693,694,696,697,698,701,702,703,705,706,708,709,710,713,714]
theorem eK:∀ P,asK=(KK P).map (·.1):=fun P=>by kernel_rfl
def vw:Program:={ PySem.Challenge.pw_lanescribe_k17_whole_readers_stop_no_wri with main:={ PySem.Challenge.pw_lanescribe_k17_whole_readers_stop_no_wri.main with body:=[tp 0,tp 2,tp 3,tp 4,tp 5,tp 6,tp 7,tp 8,tp 9,tp 10,tp 11,tp 13,tp 14,tp 15,tp 16,tp 17,tp 18,tp 19,tp 20,tp 22,tp 23,tp 24,tp 25,tp 26,tp 27,tp 28,tp 29,tp 30,tp 31,tp 32,tp 33,tp 34,tp 36,tp 37,tp 39,tp 40,tp 41,tp 42,tp 43,tp 44,tp 45,tp 46,tp 47,tp 48] } }
def ls:List Str:=[u "ScribeError",u "BadName",u "BadBounds",u "BadSize",u "BadTime",u "Taken",u "Full",u "NotTop",u "Missing",u "NoTicket",u "Kind",u "Lane",u "Looker"]
def lv:List (Str×WData):=[]
abbrev Xt:Shared->Bool:=fun s=>xlAt vw lv s && recOk (RowW.records (OpenRow.toRowW PySem.Challenge.rw_lanescribe_k17_whole_readers_stop_no_wri.row)) s
abbrev hk:Hook:=kHook KK asK eK
theorem said:PySem.Challenge.rw_lanescribe_k17_whole_readers_stop_no_wri.wellSaid=true:=by kernel_rfl
theorem openP:opening (OpenRow.toRowW PySem.Challenge.rw_lanescribe_k17_whole_readers_stop_no_wri.row).prog=plainProg (OpenRow.toRowW PySem.Challenge.rw_lanescribe_k17_whole_readers_stop_no_wri.row).prog.main.scope.names:=by kernel_rfl
theorem by_parts {p:Program} {w:World} {N L:Nat} {s0 s':Shared} {t':Thread} {m0:Nat} {ann:Option Value} {β:Type} {F:Shared->β} {X:β} (h1:(s0.heap.isNs mainGlobals && s0.gens.size == 0)=true) (h2:s0.heap.objs.size=m0) (h3:s0.heap.nsMap mainGlobals "__annotations__" = ann)
 (chain:∀ r,topRun treeTable p w m0 ann L s' t'=some r->topRun treeTable p w m0 ann N s0 (topStub p)=some r)
 (last:((topRun treeTable p w m0 ann L s' t').bind fun s₁=>match staticsOk (importedModules p.main.body) s0.heap s₁.heap && namesBound p s₁.heap && gensDone s₁ && laidKept s0.heap s₁.heap with
  |true=>some s₁
  |false=>none).map F=some X):(topFrom treeTable p w N s0).map F=some X:=by
 cases hA:topRun treeTable p w m0 ann L s' t' with
 |none=>rw [hA] at last;cases last
 | some r=>
   have e:=chain r hA
   unfold topFrom
   rw [h1,h2,h3,e]
   rw [hA] at last
   exact last
abbrev pp:Program:=(OpenRow.toRowW PySem.Challenge.rw_lanescribe_k17_whole_readers_stop_no_wri.row).prog
def env:Env:={ scope:=pp.main.scope,locals:=mainNs,globals:=mainNs,cells:=[],code:=vr 13,frame:=some 14 }
abbrev cd:Code:=.body (behindTheImports pp) env
abbrev fp:Pos:={ line:=0,col:=0,endLine:=0,endCol:=0 }
abbrev an:Option Value:=some (vr 6)
abbrev S_0 (w:World) (os:OsState):Shared:=⟨boot_heap w.params,Array.mk [],boot_drawn,boot_toks,os⟩
def o0 (P:Params):Obj:=ot #[]
def o1 (P:Params):Obj:={ cls:=vn,data:=Data.fields #[] }
def o2 (P:Params):Obj:=oc #[vs "<module>" 182,vs "<module>" 183,vf 184,vi 1 0,vi 0 0,vi 0 0,vi 0 0,vi 0 0,vr 11,Value.bool false,vi 181 0,vr 12,vn,vn,vn,vn,vi 185 0,vi 1 0,vf 186]
def o3 (P:Params):Obj:={ cls:=vt "frame",slots:=#[some (vr 13),some (vr 3),some (vr 3),none,some (vs "__main__" 164),none,some (vr 0)] }
def h_a (P:Params):Heap:=⟨⟨boot_o_0 P::boot_o_1 P::boot_o_2 P::boot_o_3 P::boot_o_4 P::boot_o_5 P::boot_o_6 P::boot_o_7 P::boot_o_8 P::boot_o_9 P::boot_o_10 P::o0 P::o1 P::o2 P::o3 P::[]⟩,{ }⟩
abbrev S_a (w:World) (os:OsState):Shared:=⟨h_a w.params,Array.mk [],{ },187,os⟩
abbrev p_a:Pos:={ line:=0,col:=0,endLine:=0,endCol:=0 }
def h_b (P:Params):Heap:=⟨⟨boot_o_0 P::boot_o_1 P::boot_o_2 P::boot_o_3 P::boot_o_4 P::boot_o_5 P::boot_o_6 P::boot_o_7 P::boot_o_8 P::boot_o_9 P::boot_o_10 P::o0 P::o1 P::o2 P::o3 P::[]⟩,{ }⟩
abbrev S_b (w:World) (os:OsState):Shared:=⟨h_b w.params,Array.mk [],{ },187,os⟩
abbrev p_b:Pos:={ line:=0,col:=0,endLine:=0,endCol:=0 }
theorem r_a (w:World) (os:OsState):topGo treeTable pp w 11 an 12 (S_0 w os) (topStub pp)=some (S_a w os,⟨denote treeTable cd,cd,p_a,[topFrame fp]⟩):=by kernel_rfl
theorem r_b (w:World) (os:OsState):segRun treeTable pp w 11 an 1 1 (S_a w os) (blockOf (behindTheImports pp) env cd p_a [topFrame fp])=some (.next,S_b w os,cd,p_b):=by kernel_rfl
def o4 (P:Params):Obj:={ cls:=vt "dict",data:=Data.dict #[de P "__name__" 165 (vs "lanescribe.errors" 194),de P "__doc__" 166 (vn),de P "__package__" 167 (vn),de P "__loader__" 168 (Value.builtin "__main__.__loader__#opaque"),de P "__spec__" 169 (vn),de P "__annotations__" 170 (vr 6),de P "__builtins__" 171 (vr 4),de P "__file__" 173 (vf 172),de P "__cached__" 174 (vn),de P "_wall" 193 (vr 21),de P "ScribeError" 225 (vr 39),de P "BadName" 250 (vr 60),de P "BadBounds" 275 (vr 80)] 13 }
def o5 (P:Params):Obj:={ cls:=vn,data:=Data.fields #[vi 1 0,vi 0 0,vr 20,vi 5 0,vi 0 0,vr 27,vi 10 0,vi 0 0,vr 48,vi 14 0,vi 0 0,vr 68] }
def o6 (P:Params):Obj:=ot #[vs "k" 190]
def o7 (P:Params):Obj:={ cls:=vn,data:=Data.func { name:=u "_wall",qualname:=u "_wall",params:=TA 0,body:=FuncBody.stmts (TB 0),scope:=TS 0,globals:=0,closure:=[],defaults:=vn,kwdefaults:=vn } }
def o8 (P:Params):Obj:=oc #[vs "_wall" 187,vs "_wall" 188,vf 189,vi 1 0,vi 1 0,vi 0 0,vi 0 0,vi 3 0,vr 15,vb,vi 181 0,vr 16,vn,vr 17,vr 18,vr 19,vi 191 0,vi 1 0,vf 192]
def o9 (P:Params):Obj:=of "_wall" "_wall" (TA 0) (TB 0) (TS 0) vn (vs "__main__" 164) (vr 20)
def o10 (P:Params):Obj:=ot #[vt "ValueError"]
def o11 (P:Params):Obj:={ cls:=vt "builtin_function_or_method",data:=Data.fields #[Value.builtin "type.__prepare__",vt "type"] }
def o12 (P:Params):Obj:={ cls:=vt "dict",data:=Data.dict #[de P "__module__" 203 (vs "lanescribe.errors" 194),de P "__qualname__" 205 (vs "ScribeError" 204),de P "__firstlineno__" 207 (vi 5 206),de P "__init__" 218 (vr 36),de P "__static_attributes__" 220 (vr 37)] 5 }
def o13 (P:Params):Obj:={ cls:=vn,data:=Data.fields #[vi 7 0,vi 4 0,vr 35] }
def o14 (P:Params):Obj:=oc #[vs "ScribeError" 198,vs "ScribeError" 199,vf 200,vi 5 0,vi 0 0,vi 0 0,vi 0 0,vi 0 0,vr 25,Value.bool false,vi 181 0,vr 26,vn,vn,vn,vn,vi 201 0,vi 5 0,vf 202]
def o15 (P:Params):Obj:={ cls:=vt "frame",slots:=#[some (vr 27),some (vr 3),some (vr 24),none,some (vs "lanescribe.errors" 194),none,some (vr 0)] }
def o16 (P:Params):Obj:=ot #[vs "" 208,vs "scribeerror" 209]
def o17 (P:Params):Obj:=ot #[vs "self" 213,vs "words" 214,vs "word" 215]
def o18 (P:Params):Obj:={ cls:=vn,data:=Data.func { name:=u "__init__",qualname:=u "ScribeError.__init__",params:=MA 2 0,body:=FuncBody.stmts (MB 2 0),scope:=MS 2 0,globals:=0,closure:=[],defaults:=vn,kwdefaults:=vn } }
def o19 (P:Params):Obj:=oc #[vs "__init__" 210,vs "ScribeError.__init__" 211,vf 212,vi 7 0,vi 3 0,vi 0 0,vi 0 0,vi 3 0,vr 30,vb,vi 181 0,vr 31,vn,vr 32,vr 33,vr 34,vi 216 0,vi 7 0,vf 217]
def o20 (P:Params):Obj:=of "__init__" "ScribeError.__init__" (MA 2 0) (MB 2 0) (MS 2 0) (vr 29) (vs "lanescribe.errors" 194) (vr 35)
def o21 (P:Params):Obj:=ot #[vs "word" 219]
def o22 (P:Params):Obj:={ cls:=vt "dict",data:=Data.dict #[de P "__module__" 203 (vs "lanescribe.errors" 194),de P "__firstlineno__" 207 (vi 5 206),de P "__init__" 218 (vr 36),de P "__static_attributes__" 220 (vr 37),de P "__weakref__" 222 (vr 40),de P "__doc__" 223 (vn)] 3 }
def o23 (P:Params):Obj:={ cls:=vt "type",data:=Data.cls { name:=u "ScribeError",bases:=[vt "ValueError"],mro:=[vr 39,vt "ValueError",vt "Exception",vt "BaseException",vt "object"],ns:=38,qualname:=u "ScribeError",subclasses:=[vr 60,vr 80] },slots:=#[some (vr 22),none,some (vs "ScribeError" 196),some (vs "ScribeError" 204),some (Value.builtin "ValueError.__new__"),some (vb)] }
def o24 (P:Params):Obj:={ cls:=vt "getset_descriptor",data:=Data.fields #[vs "__weakref__" 221,vr 39,Value.builtin "ExceptionGroup.__weakref__",vn] }
def o25 (P:Params):Obj:={ cls:=vt "super",data:=Data.fields #[vr 39,vr 39,vr 39] }
def o26 (P:Params):Obj:={ cls:=vt "builtin_function_or_method",data:=Data.fields #[Value.builtin "object.__init_subclass__",vr 39] }
def o27 (P:Params):Obj:=ot #[vr 39]
def o28 (P:Params):Obj:={ cls:=vt "dict",data:=Data.dict #[de P "__module__" 233 (vs "lanescribe.errors" 194),de P "__qualname__" 235 (vs "BadName" 234),de P "__firstlineno__" 237 (vi 10 236),de P "__init__" 246 (vr 57),de P "__static_attributes__" 247 (vr 58)] 5 }
def o29 (P:Params):Obj:={ cls:=vn,data:=Data.fields #[vi 12 0,vi 4 0,vr 56] }
def o30 (P:Params):Obj:=oc #[vs "BadName" 228,vs "BadName" 229,vf 230,vi 10 0,vi 0 0,vi 0 0,vi 0 0,vi 0 0,vr 46,Value.bool false,vi 181 0,vr 47,vn,vn,vn,vn,vi 231 0,vi 10 0,vf 232]
def o31 (P:Params):Obj:={ cls:=vt "frame",slots:=#[some (vr 48),some (vr 3),some (vr 45),none,some (vs "lanescribe.errors" 194),none,some (vr 0)] }
def o32 (P:Params):Obj:=ot #[vs "" 238]
def o33 (P:Params):Obj:=ot #[vs "self" 242,vs "words" 243]
def o34 (P:Params):Obj:={ cls:=vn,data:=Data.func { name:=u "__init__",qualname:=u "BadName.__init__",params:=MA 3 0,body:=FuncBody.stmts (MB 3 0),scope:=MS 3 0,globals:=0,closure:=[],defaults:=vn,kwdefaults:=vn } }
def o35 (P:Params):Obj:=oc #[vs "__init__" 239,vs "BadName.__init__" 240,vf 241,vi 12 0,vi 2 0,vi 0 0,vi 0 0,vi 3 0,vr 51,vb,vi 181 0,vr 52,vn,vr 53,vr 54,vr 55,vi 244 0,vi 12 0,vf 245]
def o36 (P:Params):Obj:=of "__init__" "BadName.__init__" (MA 3 0) (MB 3 0) (MS 3 0) (vr 50) (vs "lanescribe.errors" 194) (vr 56)
def o37 (P:Params):Obj:={ cls:=vt "dict",data:=Data.dict #[de P "__module__" 233 (vs "lanescribe.errors" 194),de P "__firstlineno__" 237 (vi 10 236),de P "__init__" 246 (vr 57),de P "__static_attributes__" 247 (vr 58),de P "__doc__" 248 (vn)] 2 }
def o38 (P:Params):Obj:={ cls:=vt "type",data:=Data.cls { name:=u "BadName",bases:=[vr 39],mro:=[vr 60,vr 39,vt "ValueError",vt "Exception",vt "BaseException",vt "object"],ns:=59,qualname:=u "BadName" },slots:=#[some (vr 43),none,some (vs "BadName" 226),some (vs "BadName" 234),some (Value.builtin "ValueError.__new__"),some (vb)] }
def o39 (P:Params):Obj:={ cls:=vt "super",data:=Data.fields #[vr 60,vr 60,vr 60] }
def o40 (P:Params):Obj:={ cls:=vt "builtin_function_or_method",data:=Data.fields #[Value.builtin "object.__init_subclass__",vr 60] }
def o41 (P:Params):Obj:={ cls:=vt "dict",data:=Data.dict #[de P "__module__" 258 (vs "lanescribe.errors" 194),de P "__qualname__" 260 (vs "BadBounds" 259),de P "__firstlineno__" 262 (vi 14 261),de P "__init__" 271 (vr 77),de P "__static_attributes__" 272 (vr 78)] 5 }
def o42 (P:Params):Obj:={ cls:=vn,data:=Data.fields #[vi 16 0,vi 4 0,vr 76] }
def o43 (P:Params):Obj:=oc #[vs "BadBounds" 253,vs "BadBounds" 254,vf 255,vi 14 0,vi 0 0,vi 0 0,vi 0 0,vi 0 0,vr 66,Value.bool false,vi 181 0,vr 67,vn,vn,vn,vn,vi 256 0,vi 14 0,vf 257]
def o44 (P:Params):Obj:={ cls:=vt "frame",slots:=#[some (vr 68),some (vr 3),some (vr 65),none,some (vs "lanescribe.errors" 194),none,some (vr 0)] }
def o45 (P:Params):Obj:=ot #[vs "" 263]
def o46 (P:Params):Obj:=ot #[vs "self" 267,vs "words" 268]
def o47 (P:Params):Obj:={ cls:=vn,data:=Data.func { name:=u "__init__",qualname:=u "BadBounds.__init__",params:=MA 4 0,body:=FuncBody.stmts (MB 4 0),scope:=MS 4 0,globals:=0,closure:=[],defaults:=vn,kwdefaults:=vn } }
def o48 (P:Params):Obj:=oc #[vs "__init__" 264,vs "BadBounds.__init__" 265,vf 266,vi 16 0,vi 2 0,vi 0 0,vi 0 0,vi 3 0,vr 71,vb,vi 181 0,vr 72,vn,vr 73,vr 74,vr 75,vi 269 0,vi 16 0,vf 270]
def o49 (P:Params):Obj:=of "__init__" "BadBounds.__init__" (MA 4 0) (MB 4 0) (MS 4 0) (vr 70) (vs "lanescribe.errors" 194) (vr 76)
def o50 (P:Params):Obj:={ cls:=vt "dict",data:=Data.dict #[de P "__module__" 258 (vs "lanescribe.errors" 194),de P "__firstlineno__" 262 (vi 14 261),de P "__init__" 271 (vr 77),de P "__static_attributes__" 272 (vr 78),de P "__doc__" 273 (vn)] 2 }
def o51 (P:Params):Obj:={ cls:=vt "type",data:=Data.cls { name:=u "BadBounds",bases:=[vr 39],mro:=[vr 80,vr 39,vt "ValueError",vt "Exception",vt "BaseException",vt "object"],ns:=79,qualname:=u "BadBounds" },slots:=#[some (vr 63),none,some (vs "BadBounds" 251),some (vs "BadBounds" 259),some (Value.builtin "ValueError.__new__"),some (vb)] }
def o52 (P:Params):Obj:={ cls:=vt "super",data:=Data.fields #[vr 80,vr 80,vr 80] }
def o53 (P:Params):Obj:={ cls:=vt "builtin_function_or_method",data:=Data.fields #[Value.builtin "object.__init_subclass__",vr 80] }
def h_c5 (P:Params):Heap:=⟨⟨boot_o_0 P::boot_o_1 P::boot_o_2 P::o4 P::boot_o_4 P::boot_o_5 P::boot_o_6 P::boot_o_7 P::boot_o_8 P::boot_o_9 P::boot_o_10 P::o0 P::o5 P::o2 P::o3 P::o0 P::o1 P::o6 P::o0 P::o7 P::o8 P::o9 P::o10 P::o11 P::o12 P::o0 P::o13 P::o14 P::o15 P::o16 P::o0 P::o1 P::o17 P::o0 P::o18 P::o19 P::o20 P::o21 P::o22 P::o23 P::o24 P::o25 P::o26 P::o27 P::o11 P::o28 P::o0 P::o29 P::o30 P::o31 P::o32 P::o0 P::o1 P::o33 P::o0 P::o34 P::o35 P::o36 P::o0 P::o37 P::o38 P::o39 P::o40 P::o27 P::o11 P::o41 P::o0 P::o42 P::o43 P::o44 P::o45 P::o0 P::o1 P::o46 P::o0 P::o47 P::o48 P::o49 P::o0 P::o50 P::o51 P::o52 P::o53 P::[]⟩,{ }⟩
abbrev S_c5 (w:World) (os:OsState):Shared:=⟨h_c5 w.params,Array.mk [],{ },276,os⟩
abbrev p_c5:Pos:={ line:=14,col:=0,endLine:=17,endCol:=54 }
abbrev l_5:List Stmt:=((behindTheImports pp).drop 0).take 5
theorem r_5 (w:World) (os:OsState):segRun treeTable pp w 11 an 1 753 (S_b w os) (piecesOf l_5 env cd p_b [topFrame fp])=some (.next,S_c5 w os,cd,p_c5):=by kernel_rfl
def o54 (P:Params):Obj:={ cls:=vt "dict",data:=Data.dict #[de P "__name__" 165 (vs "lanescribe.errors" 194),de P "__doc__" 166 (vn),de P "__package__" 167 (vn),de P "__loader__" 168 (Value.builtin "__main__.__loader__#opaque"),de P "__spec__" 169 (vn),de P "__annotations__" 170 (vr 6),de P "__builtins__" 171 (vr 4),de P "__file__" 173 (vf 172),de P "__cached__" 174 (vn),de P "_wall" 193 (vr 21),de P "ScribeError" 225 (vr 39),de P "BadName" 250 (vr 60),de P "BadBounds" 275 (vr 80),de P "BadSize" 300 (vr 100),de P "BadTime" 325 (vr 120),de P "Taken" 350 (vr 140)] 16 }
def o55 (P:Params):Obj:={ cls:=vn,data:=Data.fields #[vi 1 0,vi 0 0,vr 20,vi 5 0,vi 0 0,vr 27,vi 10 0,vi 0 0,vr 48,vi 14 0,vi 0 0,vr 68,vi 18 0,vi 0 0,vr 88,vi 22 0,vi 0 0,vr 108,vi 26 0,vi 0 0,vr 128] }
def o56 (P:Params):Obj:={ cls:=vt "type",data:=Data.cls { name:=u "ScribeError",bases:=[vt "ValueError"],mro:=[vr 39,vt "ValueError",vt "Exception",vt "BaseException",vt "object"],ns:=38,qualname:=u "ScribeError",subclasses:=[vr 60,vr 80,vr 100,vr 120,vr 140] },slots:=#[some (vr 22),none,some (vs "ScribeError" 196),some (vs "ScribeError" 204),some (Value.builtin "ValueError.__new__"),some (vb)] }
def o57 (P:Params):Obj:={ cls:=vt "dict",data:=Data.dict #[de P "__module__" 283 (vs "lanescribe.errors" 194),de P "__qualname__" 285 (vs "BadSize" 284),de P "__firstlineno__" 287 (vi 18 286),de P "__init__" 296 (vr 97),de P "__static_attributes__" 297 (vr 98)] 5 }
def o58 (P:Params):Obj:={ cls:=vn,data:=Data.fields #[vi 20 0,vi 4 0,vr 96] }
def o59 (P:Params):Obj:=oc #[vs "BadSize" 278,vs "BadSize" 279,vf 280,vi 18 0,vi 0 0,vi 0 0,vi 0 0,vi 0 0,vr 86,Value.bool false,vi 181 0,vr 87,vn,vn,vn,vn,vi 281 0,vi 18 0,vf 282]
def o60 (P:Params):Obj:={ cls:=vt "frame",slots:=#[some (vr 88),some (vr 3),some (vr 85),none,some (vs "lanescribe.errors" 194),none,some (vr 0)] }
def o61 (P:Params):Obj:=ot #[vs "" 288]
def o62 (P:Params):Obj:=ot #[vs "self" 292,vs "words" 293]
def o63 (P:Params):Obj:={ cls:=vn,data:=Data.func { name:=u "__init__",qualname:=u "BadSize.__init__",params:=MA 5 0,body:=FuncBody.stmts (MB 5 0),scope:=MS 5 0,globals:=0,closure:=[],defaults:=vn,kwdefaults:=vn } }
def o64 (P:Params):Obj:=oc #[vs "__init__" 289,vs "BadSize.__init__" 290,vf 291,vi 20 0,vi 2 0,vi 0 0,vi 0 0,vi 3 0,vr 91,vb,vi 181 0,vr 92,vn,vr 93,vr 94,vr 95,vi 294 0,vi 20 0,vf 295]
def o65 (P:Params):Obj:=of "__init__" "BadSize.__init__" (MA 5 0) (MB 5 0) (MS 5 0) (vr 90) (vs "lanescribe.errors" 194) (vr 96)
def o66 (P:Params):Obj:={ cls:=vt "dict",data:=Data.dict #[de P "__module__" 283 (vs "lanescribe.errors" 194),de P "__firstlineno__" 287 (vi 18 286),de P "__init__" 296 (vr 97),de P "__static_attributes__" 297 (vr 98),de P "__doc__" 298 (vn)] 2 }
def o67 (P:Params):Obj:={ cls:=vt "type",data:=Data.cls { name:=u "BadSize",bases:=[vr 39],mro:=[vr 100,vr 39,vt "ValueError",vt "Exception",vt "BaseException",vt "object"],ns:=99,qualname:=u "BadSize" },slots:=#[some (vr 83),none,some (vs "BadSize" 276),some (vs "BadSize" 284),some (Value.builtin "ValueError.__new__"),some (vb)] }
def o68 (P:Params):Obj:={ cls:=vt "super",data:=Data.fields #[vr 100,vr 100,vr 100] }
def o69 (P:Params):Obj:={ cls:=vt "builtin_function_or_method",data:=Data.fields #[Value.builtin "object.__init_subclass__",vr 100] }
def o70 (P:Params):Obj:={ cls:=vt "dict",data:=Data.dict #[de P "__module__" 308 (vs "lanescribe.errors" 194),de P "__qualname__" 310 (vs "BadTime" 309),de P "__firstlineno__" 312 (vi 22 311),de P "__init__" 321 (vr 117),de P "__static_attributes__" 322 (vr 118)] 5 }
def o71 (P:Params):Obj:={ cls:=vn,data:=Data.fields #[vi 24 0,vi 4 0,vr 116] }
def o72 (P:Params):Obj:=oc #[vs "BadTime" 303,vs "BadTime" 304,vf 305,vi 22 0,vi 0 0,vi 0 0,vi 0 0,vi 0 0,vr 106,Value.bool false,vi 181 0,vr 107,vn,vn,vn,vn,vi 306 0,vi 22 0,vf 307]
def o73 (P:Params):Obj:={ cls:=vt "frame",slots:=#[some (vr 108),some (vr 3),some (vr 105),none,some (vs "lanescribe.errors" 194),none,some (vr 0)] }
def o74 (P:Params):Obj:=ot #[vs "" 313]
def o75 (P:Params):Obj:=ot #[vs "self" 317,vs "words" 318]
def o76 (P:Params):Obj:={ cls:=vn,data:=Data.func { name:=u "__init__",qualname:=u "BadTime.__init__",params:=MA 6 0,body:=FuncBody.stmts (MB 6 0),scope:=MS 6 0,globals:=0,closure:=[],defaults:=vn,kwdefaults:=vn } }
def o77 (P:Params):Obj:=oc #[vs "__init__" 314,vs "BadTime.__init__" 315,vf 316,vi 24 0,vi 2 0,vi 0 0,vi 0 0,vi 3 0,vr 111,vb,vi 181 0,vr 112,vn,vr 113,vr 114,vr 115,vi 319 0,vi 24 0,vf 320]
def o78 (P:Params):Obj:=of "__init__" "BadTime.__init__" (MA 6 0) (MB 6 0) (MS 6 0) (vr 110) (vs "lanescribe.errors" 194) (vr 116)
def o79 (P:Params):Obj:={ cls:=vt "dict",data:=Data.dict #[de P "__module__" 308 (vs "lanescribe.errors" 194),de P "__firstlineno__" 312 (vi 22 311),de P "__init__" 321 (vr 117),de P "__static_attributes__" 322 (vr 118),de P "__doc__" 323 (vn)] 2 }
def o80 (P:Params):Obj:={ cls:=vt "type",data:=Data.cls { name:=u "BadTime",bases:=[vr 39],mro:=[vr 120,vr 39,vt "ValueError",vt "Exception",vt "BaseException",vt "object"],ns:=119,qualname:=u "BadTime" },slots:=#[some (vr 103),none,some (vs "BadTime" 301),some (vs "BadTime" 309),some (Value.builtin "ValueError.__new__"),some (vb)] }
def o81 (P:Params):Obj:={ cls:=vt "super",data:=Data.fields #[vr 120,vr 120,vr 120] }
def o82 (P:Params):Obj:={ cls:=vt "builtin_function_or_method",data:=Data.fields #[Value.builtin "object.__init_subclass__",vr 120] }
def o83 (P:Params):Obj:={ cls:=vt "dict",data:=Data.dict #[de P "__module__" 333 (vs "lanescribe.errors" 194),de P "__qualname__" 335 (vs "Taken" 334),de P "__firstlineno__" 337 (vi 26 336),de P "__init__" 346 (vr 137),de P "__static_attributes__" 347 (vr 138)] 5 }
def o84 (P:Params):Obj:={ cls:=vn,data:=Data.fields #[vi 28 0,vi 4 0,vr 136] }
def o85 (P:Params):Obj:=oc #[vs "Taken" 328,vs "Taken" 329,vf 330,vi 26 0,vi 0 0,vi 0 0,vi 0 0,vi 0 0,vr 126,Value.bool false,vi 181 0,vr 127,vn,vn,vn,vn,vi 331 0,vi 26 0,vf 332]
def o86 (P:Params):Obj:={ cls:=vt "frame",slots:=#[some (vr 128),some (vr 3),some (vr 125),none,some (vs "lanescribe.errors" 194),none,some (vr 0)] }
def o87 (P:Params):Obj:=ot #[vs "" 338]
def o88 (P:Params):Obj:=ot #[vs "self" 342,vs "words" 343]
def o89 (P:Params):Obj:={ cls:=vn,data:=Data.func { name:=u "__init__",qualname:=u "Taken.__init__",params:=MA 7 0,body:=FuncBody.stmts (MB 7 0),scope:=MS 7 0,globals:=0,closure:=[],defaults:=vn,kwdefaults:=vn } }
def o90 (P:Params):Obj:=oc #[vs "__init__" 339,vs "Taken.__init__" 340,vf 341,vi 28 0,vi 2 0,vi 0 0,vi 0 0,vi 3 0,vr 131,vb,vi 181 0,vr 132,vn,vr 133,vr 134,vr 135,vi 344 0,vi 28 0,vf 345]
def o91 (P:Params):Obj:=of "__init__" "Taken.__init__" (MA 7 0) (MB 7 0) (MS 7 0) (vr 130) (vs "lanescribe.errors" 194) (vr 136)
def o92 (P:Params):Obj:={ cls:=vt "dict",data:=Data.dict #[de P "__module__" 333 (vs "lanescribe.errors" 194),de P "__firstlineno__" 337 (vi 26 336),de P "__init__" 346 (vr 137),de P "__static_attributes__" 347 (vr 138),de P "__doc__" 348 (vn)] 2 }
def o93 (P:Params):Obj:={ cls:=vt "type",data:=Data.cls { name:=u "Taken",bases:=[vr 39],mro:=[vr 140,vr 39,vt "ValueError",vt "Exception",vt "BaseException",vt "object"],ns:=139,qualname:=u "Taken" },slots:=#[some (vr 123),none,some (vs "Taken" 326),some (vs "Taken" 334),some (Value.builtin "ValueError.__new__"),some (vb)] }
def o94 (P:Params):Obj:={ cls:=vt "super",data:=Data.fields #[vr 140,vr 140,vr 140] }
def o95 (P:Params):Obj:={ cls:=vt "builtin_function_or_method",data:=Data.fields #[Value.builtin "object.__init_subclass__",vr 140] }
def h_c8 (P:Params):Heap:=⟨⟨boot_o_0 P::boot_o_1 P::boot_o_2 P::o54 P::boot_o_4 P::boot_o_5 P::boot_o_6 P::boot_o_7 P::boot_o_8 P::boot_o_9 P::boot_o_10 P::o0 P::o55 P::o2 P::o3 P::o0 P::o1 P::o6 P::o0 P::o7 P::o8 P::o9 P::o10 P::o11 P::o12 P::o0 P::o13 P::o14 P::o15 P::o16 P::o0 P::o1 P::o17 P::o0 P::o18 P::o19 P::o20 P::o21 P::o22 P::o56 P::o24 P::o25 P::o26 P::o27 P::o11 P::o28 P::o0 P::o29 P::o30 P::o31 P::o32 P::o0 P::o1 P::o33 P::o0 P::o34 P::o35 P::o36 P::o0 P::o37 P::o38 P::o39 P::o40 P::o27 P::o11 P::o41 P::o0 P::o42 P::o43 P::o44 P::o45 P::o0 P::o1 P::o46 P::o0 P::o47 P::o48 P::o49 P::o0 P::o50 P::o51 P::o52 P::o53 P::o27 P::o11 P::o57 P::o0 P::o58 P::o59 P::o60 P::o61 P::o0 P::o1 P::o62 P::o0 P::o63 P::o64 P::o65 P::o0 P::o66 P::o67 P::o68 P::o69 P::o27 P::o11 P::o70 P::o0 P::o71 P::o72 P::o73 P::o74 P::o0 P::o1 P::o75 P::o0 P::o76 P::o77 P::o78 P::o0 P::o79 P::o80 P::o81 P::o82 P::o27 P::o11 P::o83 P::o0 P::o84 P::o85 P::o86 P::o87 P::o0 P::o1 P::o88 P::o0 P::o89 P::o90 P::o91 P::o0 P::o92 P::o93 P::o94 P::o95 P::[]⟩,{ }⟩
abbrev S_c8 (w:World) (os:OsState):Shared:=⟨h_c8 w.params,Array.mk [],{ },351,os⟩
abbrev p_c8:Pos:={ line:=26,col:=0,endLine:=29,endCol:=50 }
abbrev l_8:List Stmt:=((behindTheImports pp).drop 5).take 3
theorem r_8 (w:World) (os:OsState):segRun treeTable pp w 11 an 1 739 (S_c5 w os) (piecesOf l_8 env cd p_c5 [topFrame fp])=some (.next,S_c8 w os,cd,p_c8):=by kernel_rfl
def o96 (P:Params):Obj:={ cls:=vt "dict",data:=Data.dict #[de P "__name__" 165 (vs "lanescribe.errors" 194),de P "__doc__" 166 (vn),de P "__package__" 167 (vn),de P "__loader__" 168 (Value.builtin "__main__.__loader__#opaque"),de P "__spec__" 169 (vn),de P "__annotations__" 170 (vr 6),de P "__builtins__" 171 (vr 4),de P "__file__" 173 (vf 172),de P "__cached__" 174 (vn),de P "_wall" 193 (vr 21),de P "ScribeError" 225 (vr 39),de P "BadName" 250 (vr 60),de P "BadBounds" 275 (vr 80),de P "BadSize" 300 (vr 100),de P "BadTime" 325 (vr 120),de P "Taken" 350 (vr 140),de P "Full" 375 (vr 160),de P "NotTop" 400 (vr 180),de P "Missing" 430 (vr 200)] 19 }
def o97 (P:Params):Obj:={ cls:=vn,data:=Data.fields #[vi 1 0,vi 0 0,vr 20,vi 5 0,vi 0 0,vr 27,vi 10 0,vi 0 0,vr 48,vi 14 0,vi 0 0,vr 68,vi 18 0,vi 0 0,vr 88,vi 22 0,vi 0 0,vr 108,vi 26 0,vi 0 0,vr 128,vi 30 0,vi 0 0,vr 148,vi 34 0,vi 0 0,vr 168,vi 38 0,vi 0 0,vr 188] }
def o98 (P:Params):Obj:={ cls:=vt "type",data:=Data.cls { name:=u "ScribeError",bases:=[vt "ValueError"],mro:=[vr 39,vt "ValueError",vt "Exception",vt "BaseException",vt "object"],ns:=38,qualname:=u "ScribeError",subclasses:=[vr 60,vr 80,vr 100,vr 120,vr 140,vr 160,vr 180] },slots:=#[some (vr 22),none,some (vs "ScribeError" 196),some (vs "ScribeError" 204),some (Value.builtin "ValueError.__new__"),some (vb)] }
def o99 (P:Params):Obj:={ cls:=vt "dict",data:=Data.dict #[de P "__module__" 358 (vs "lanescribe.errors" 194),de P "__qualname__" 360 (vs "Full" 359),de P "__firstlineno__" 362 (vi 30 361),de P "__init__" 371 (vr 157),de P "__static_attributes__" 372 (vr 158)] 5 }
def o100 (P:Params):Obj:={ cls:=vn,data:=Data.fields #[vi 32 0,vi 4 0,vr 156] }
def o101 (P:Params):Obj:=oc #[vs "Full" 353,vs "Full" 354,vf 355,vi 30 0,vi 0 0,vi 0 0,vi 0 0,vi 0 0,vr 146,Value.bool false,vi 181 0,vr 147,vn,vn,vn,vn,vi 356 0,vi 30 0,vf 357]
def o102 (P:Params):Obj:={ cls:=vt "frame",slots:=#[some (vr 148),some (vr 3),some (vr 145),none,some (vs "lanescribe.errors" 194),none,some (vr 0)] }
def o103 (P:Params):Obj:=ot #[vs "" 363]
def o104 (P:Params):Obj:=ot #[vs "self" 367,vs "words" 368]
def o105 (P:Params):Obj:={ cls:=vn,data:=Data.func { name:=u "__init__",qualname:=u "Full.__init__",params:=MA 8 0,body:=FuncBody.stmts (MB 8 0),scope:=MS 8 0,globals:=0,closure:=[],defaults:=vn,kwdefaults:=vn } }
def o106 (P:Params):Obj:=oc #[vs "__init__" 364,vs "Full.__init__" 365,vf 366,vi 32 0,vi 2 0,vi 0 0,vi 0 0,vi 3 0,vr 151,vb,vi 181 0,vr 152,vn,vr 153,vr 154,vr 155,vi 369 0,vi 32 0,vf 370]
def o107 (P:Params):Obj:=of "__init__" "Full.__init__" (MA 8 0) (MB 8 0) (MS 8 0) (vr 150) (vs "lanescribe.errors" 194) (vr 156)
def o108 (P:Params):Obj:={ cls:=vt "dict",data:=Data.dict #[de P "__module__" 358 (vs "lanescribe.errors" 194),de P "__firstlineno__" 362 (vi 30 361),de P "__init__" 371 (vr 157),de P "__static_attributes__" 372 (vr 158),de P "__doc__" 373 (vn)] 2 }
def o109 (P:Params):Obj:={ cls:=vt "type",data:=Data.cls { name:=u "Full",bases:=[vr 39],mro:=[vr 160,vr 39,vt "ValueError",vt "Exception",vt "BaseException",vt "object"],ns:=159,qualname:=u "Full" },slots:=#[some (vr 143),none,some (vs "Full" 351),some (vs "Full" 359),some (Value.builtin "ValueError.__new__"),some (vb)] }
def o110 (P:Params):Obj:={ cls:=vt "super",data:=Data.fields #[vr 160,vr 160,vr 160] }
def o111 (P:Params):Obj:={ cls:=vt "builtin_function_or_method",data:=Data.fields #[Value.builtin "object.__init_subclass__",vr 160] }
def o112 (P:Params):Obj:={ cls:=vt "dict",data:=Data.dict #[de P "__module__" 383 (vs "lanescribe.errors" 194),de P "__qualname__" 385 (vs "NotTop" 384),de P "__firstlineno__" 387 (vi 34 386),de P "__init__" 396 (vr 177),de P "__static_attributes__" 397 (vr 178)] 5 }
def o113 (P:Params):Obj:={ cls:=vn,data:=Data.fields #[vi 36 0,vi 4 0,vr 176] }
def o114 (P:Params):Obj:=oc #[vs "NotTop" 378,vs "NotTop" 379,vf 380,vi 34 0,vi 0 0,vi 0 0,vi 0 0,vi 0 0,vr 166,Value.bool false,vi 181 0,vr 167,vn,vn,vn,vn,vi 381 0,vi 34 0,vf 382]
def o115 (P:Params):Obj:={ cls:=vt "frame",slots:=#[some (vr 168),some (vr 3),some (vr 165),none,some (vs "lanescribe.errors" 194),none,some (vr 0)] }
def o116 (P:Params):Obj:=ot #[vs "" 388]
def o117 (P:Params):Obj:=ot #[vs "self" 392,vs "words" 393]
def o118 (P:Params):Obj:={ cls:=vn,data:=Data.func { name:=u "__init__",qualname:=u "NotTop.__init__",params:=MA 9 0,body:=FuncBody.stmts (MB 9 0),scope:=MS 9 0,globals:=0,closure:=[],defaults:=vn,kwdefaults:=vn } }
def o119 (P:Params):Obj:=oc #[vs "__init__" 389,vs "NotTop.__init__" 390,vf 391,vi 36 0,vi 2 0,vi 0 0,vi 0 0,vi 3 0,vr 171,vb,vi 181 0,vr 172,vn,vr 173,vr 174,vr 175,vi 394 0,vi 36 0,vf 395]
def o120 (P:Params):Obj:=of "__init__" "NotTop.__init__" (MA 9 0) (MB 9 0) (MS 9 0) (vr 170) (vs "lanescribe.errors" 194) (vr 176)
def o121 (P:Params):Obj:={ cls:=vt "dict",data:=Data.dict #[de P "__module__" 383 (vs "lanescribe.errors" 194),de P "__firstlineno__" 387 (vi 34 386),de P "__init__" 396 (vr 177),de P "__static_attributes__" 397 (vr 178),de P "__doc__" 398 (vn)] 2 }
def o122 (P:Params):Obj:={ cls:=vt "type",data:=Data.cls { name:=u "NotTop",bases:=[vr 39],mro:=[vr 180,vr 39,vt "ValueError",vt "Exception",vt "BaseException",vt "object"],ns:=179,qualname:=u "NotTop" },slots:=#[some (vr 163),none,some (vs "NotTop" 376),some (vs "NotTop" 384),some (Value.builtin "ValueError.__new__"),some (vb)] }
def o123 (P:Params):Obj:={ cls:=vt "super",data:=Data.fields #[vr 180,vr 180,vr 180] }
def o124 (P:Params):Obj:={ cls:=vt "builtin_function_or_method",data:=Data.fields #[Value.builtin "object.__init_subclass__",vr 180] }
def o125 (P:Params):Obj:=ot #[vt "LookupError"]
def o126 (P:Params):Obj:={ cls:=vt "dict",data:=Data.dict #[de P "__module__" 408 (vs "lanescribe.errors" 194),de P "__qualname__" 410 (vs "Missing" 409),de P "__firstlineno__" 412 (vi 38 411),de P "__init__" 423 (vr 197),de P "__static_attributes__" 425 (vr 198)] 5 }
def o127 (P:Params):Obj:={ cls:=vn,data:=Data.fields #[vi 40 0,vi 4 0,vr 196] }
def o128 (P:Params):Obj:=oc #[vs "Missing" 403,vs "Missing" 404,vf 405,vi 38 0,vi 0 0,vi 0 0,vi 0 0,vi 0 0,vr 186,Value.bool false,vi 181 0,vr 187,vn,vn,vn,vn,vi 406 0,vi 38 0,vf 407]
def o129 (P:Params):Obj:={ cls:=vt "frame",slots:=#[some (vr 188),some (vr 3),some (vr 185),none,some (vs "lanescribe.errors" 194),none,some (vr 0)] }
def o130 (P:Params):Obj:=ot #[vs "" 413,vs "missing" 414]
def o131 (P:Params):Obj:=ot #[vs "self" 418,vs "words" 419,vs "word" 420]
def o132 (P:Params):Obj:={ cls:=vn,data:=Data.func { name:=u "__init__",qualname:=u "Missing.__init__",params:=MA 10 0,body:=FuncBody.stmts (MB 10 0),scope:=MS 10 0,globals:=0,closure:=[],defaults:=vn,kwdefaults:=vn } }
def o133 (P:Params):Obj:=oc #[vs "__init__" 415,vs "Missing.__init__" 416,vf 417,vi 40 0,vi 3 0,vi 0 0,vi 0 0,vi 3 0,vr 191,vb,vi 181 0,vr 192,vn,vr 193,vr 194,vr 195,vi 421 0,vi 40 0,vf 422]
def o134 (P:Params):Obj:=of "__init__" "Missing.__init__" (MA 10 0) (MB 10 0) (MS 10 0) (vr 190) (vs "lanescribe.errors" 194) (vr 196)
def o135 (P:Params):Obj:=ot #[vs "word" 424]
def o136 (P:Params):Obj:={ cls:=vt "dict",data:=Data.dict #[de P "__module__" 408 (vs "lanescribe.errors" 194),de P "__firstlineno__" 412 (vi 38 411),de P "__init__" 423 (vr 197),de P "__static_attributes__" 425 (vr 198),de P "__weakref__" 427 (vr 201),de P "__doc__" 428 (vn)] 3 }
def o137 (P:Params):Obj:={ cls:=vt "type",data:=Data.cls { name:=u "Missing",bases:=[vt "LookupError"],mro:=[vr 200,vt "LookupError",vt "Exception",vt "BaseException",vt "object"],ns:=199,qualname:=u "Missing" },slots:=#[some (vr 183),none,some (vs "Missing" 401),some (vs "Missing" 409),some (Value.builtin "LookupError.__new__"),some (vb)] }
def o138 (P:Params):Obj:={ cls:=vt "getset_descriptor",data:=Data.fields #[vs "__weakref__" 426,vr 200,Value.builtin "ExceptionGroup.__weakref__",vn] }
def o139 (P:Params):Obj:={ cls:=vt "super",data:=Data.fields #[vr 200,vr 200,vr 200] }
def o140 (P:Params):Obj:={ cls:=vt "builtin_function_or_method",data:=Data.fields #[Value.builtin "object.__init_subclass__",vr 200] }
def h_c11 (P:Params):Heap:=⟨⟨boot_o_0 P::boot_o_1 P::boot_o_2 P::o96 P::boot_o_4 P::boot_o_5 P::boot_o_6 P::boot_o_7 P::boot_o_8 P::boot_o_9 P::boot_o_10 P::o0 P::o97 P::o2 P::o3 P::o0 P::o1 P::o6 P::o0 P::o7 P::o8 P::o9 P::o10 P::o11 P::o12 P::o0 P::o13 P::o14 P::o15 P::o16 P::o0 P::o1 P::o17 P::o0 P::o18 P::o19 P::o20 P::o21 P::o22 P::o98 P::o24 P::o25 P::o26 P::o27 P::o11 P::o28 P::o0 P::o29 P::o30 P::o31 P::o32 P::o0 P::o1 P::o33 P::o0 P::o34 P::o35 P::o36 P::o0 P::o37 P::o38 P::o39 P::o40 P::o27 P::o11 P::o41 P::o0 P::o42 P::o43 P::o44 P::o45 P::o0 P::o1 P::o46 P::o0 P::o47 P::o48 P::o49 P::o0 P::o50 P::o51 P::o52 P::o53 P::o27 P::o11 P::o57 P::o0 P::o58 P::o59 P::o60 P::o61 P::o0 P::o1 P::o62 P::o0 P::o63 P::o64 P::o65 P::o0 P::o66 P::o67 P::o68 P::o69 P::o27 P::o11 P::o70 P::o0 P::o71 P::o72 P::o73 P::o74 P::o0 P::o1 P::o75 P::o0 P::o76 P::o77 P::o78 P::o0 P::o79 P::o80 P::o81 P::o82 P::o27 P::o11 P::o83 P::o0 P::o84 P::o85 P::o86 P::o87 P::o0 P::o1 P::o88 P::o0 P::o89 P::o90 P::o91 P::o0 P::o92 P::o93 P::o94 P::o95 P::o27 P::o11 P::o99 P::o0 P::o100 P::o101 P::o102 P::o103 P::o0 P::o1 P::o104 P::o0 P::o105 P::o106 P::o107 P::o0 P::o108 P::o109 P::o110 P::o111 P::o27 P::o11 P::o112 P::o0 P::o113 P::o114 P::o115 P::o116 P::o0 P::o1 P::o117 P::o0 P::o118 P::o119 P::o120 P::o0 P::o121 P::o122 P::o123 P::o124 P::o125 P::o11 P::o126 P::o0 P::o127 P::o128 P::o129 P::o130 P::o0 P::o1 P::o131 P::o0 P::o132 P::o133 P::o134 P::o135 P::o136 P::o137 P::o138 P::o139 P::o140 P::[]⟩,{ }⟩
abbrev S_c11 (w:World) (os:OsState):Shared:=⟨h_c11 w.params,Array.mk [],{ },431,os⟩
abbrev p_c11:Pos:={ line:=38,col:=0,endLine:=42,endCol:=24 }
abbrev l_11:List Stmt:=((behindTheImports pp).drop 8).take 3
theorem r_11 (w:World) (os:OsState):segRun treeTable pp w 11 an 1 715 (S_c8 w os) (piecesOf l_11 env cd p_c8 [topFrame fp])=some (.next,S_c11 w os,cd,p_c11):=by kernel_rfl
def o141 (P:Params):Obj:={ cls:=vt "dict",data:=Data.dict #[de P "__name__" 165 (vs "lanescribe.kinds" 456),de P "__doc__" 166 (vn),de P "__package__" 167 (vn),de P "__loader__" 168 (Value.builtin "__main__.__loader__#opaque"),de P "__spec__" 169 (vn),de P "__annotations__" 170 (vr 6),de P "__builtins__" 171 (vr 4),de P "__file__" 173 (vf 172),de P "__cached__" 174 (vn),de P "_wall" 193 (vr 21),de P "ScribeError" 225 (vr 39),de P "BadName" 250 (vr 60),de P "BadBounds" 275 (vr 80),de P "BadSize" 300 (vr 100),de P "BadTime" 325 (vr 120),de P "Taken" 350 (vr 140),de P "Full" 375 (vr 160),de P "NotTop" 400 (vr 180),de P "Missing" 430 (vr 200),de P "NoTicket" 455 (vr 221),de P "LIMIT" 459 (vi 999999 458),de P "MOST_LETTERS" 461 (vi 8 460),de P "MOST_FIELDS" 463 (vi 4 462),de P "is_name" 470 (vr 230),de P "need_name" 477 (vr 237),de P "need_fields" 488 (vr 244),de P "bounds_text" 494 (vr 249),de P "Kind" 584 (vr 322)] 28 }
def o142 (P:Params):Obj:={ cls:=vn,data:=Data.fields #[vi 1 0,vi 0 0,vr 20,vi 5 0,vi 0 0,vr 27,vi 10 0,vi 0 0,vr 48,vi 14 0,vi 0 0,vr 68,vi 18 0,vi 0 0,vr 88,vi 22 0,vi 0 0,vr 108,vi 26 0,vi 0 0,vr 128,vi 30 0,vi 0 0,vr 148,vi 34 0,vi 0 0,vr 168,vi 38 0,vi 0 0,vr 188,vi 43 0,vi 0 0,vr 209,vi 51 0,vi 0 0,vr 229,vi 53 0,vi 0 0,vr 236,vi 56 0,vi 0 0,vr 243,vi 65 0,vi 0 0,vr 248,vi 67 0,vi 0 0,vr 255] }
def o143 (P:Params):Obj:={ cls:=vt "type",data:=Data.cls { name:=u "Missing",bases:=[vt "LookupError"],mro:=[vr 200,vt "LookupError",vt "Exception",vt "BaseException",vt "object"],ns:=199,qualname:=u "Missing",subclasses:=[vr 221] },slots:=#[some (vr 183),none,some (vs "Missing" 401),some (vs "Missing" 409),some (Value.builtin "LookupError.__new__"),some (vb)] }
def o144 (P:Params):Obj:=ot #[vr 200]
def o145 (P:Params):Obj:={ cls:=vt "dict",data:=Data.dict #[de P "__module__" 438 (vs "lanescribe.errors" 194),de P "__qualname__" 440 (vs "NoTicket" 439),de P "__firstlineno__" 442 (vi 43 441),de P "__init__" 451 (vr 218),de P "__static_attributes__" 452 (vr 219)] 5 }
def o146 (P:Params):Obj:={ cls:=vn,data:=Data.fields #[vi 45 0,vi 4 0,vr 217] }
def o147 (P:Params):Obj:=oc #[vs "NoTicket" 433,vs "NoTicket" 434,vf 435,vi 43 0,vi 0 0,vi 0 0,vi 0 0,vi 0 0,vr 207,Value.bool false,vi 181 0,vr 208,vn,vn,vn,vn,vi 436 0,vi 43 0,vf 437]
def o148 (P:Params):Obj:={ cls:=vt "frame",slots:=#[some (vr 209),some (vr 3),some (vr 206),none,some (vs "lanescribe.errors" 194),none,some (vr 0)] }
def o149 (P:Params):Obj:=ot #[vs "" 443]
def o150 (P:Params):Obj:=ot #[vs "self" 447,vs "words" 448]
def o151 (P:Params):Obj:={ cls:=vn,data:=Data.func { name:=u "__init__",qualname:=u "NoTicket.__init__",params:=MA 11 0,body:=FuncBody.stmts (MB 11 0),scope:=MS 11 0,globals:=0,closure:=[],defaults:=vn,kwdefaults:=vn } }
def o152 (P:Params):Obj:=oc #[vs "__init__" 444,vs "NoTicket.__init__" 445,vf 446,vi 45 0,vi 2 0,vi 0 0,vi 0 0,vi 3 0,vr 212,vb,vi 181 0,vr 213,vn,vr 214,vr 215,vr 216,vi 449 0,vi 45 0,vf 450]
def o153 (P:Params):Obj:=of "__init__" "NoTicket.__init__" (MA 11 0) (MB 11 0) (MS 11 0) (vr 211) (vs "lanescribe.errors" 194) (vr 217)
def o154 (P:Params):Obj:={ cls:=vt "dict",data:=Data.dict #[de P "__module__" 438 (vs "lanescribe.errors" 194),de P "__firstlineno__" 442 (vi 43 441),de P "__init__" 451 (vr 218),de P "__static_attributes__" 452 (vr 219),de P "__doc__" 453 (vn)] 2 }
def o155 (P:Params):Obj:={ cls:=vt "type",data:=Data.cls { name:=u "NoTicket",bases:=[vr 200],mro:=[vr 221,vr 200,vt "LookupError",vt "Exception",vt "BaseException",vt "object"],ns:=220,qualname:=u "NoTicket" },slots:=#[some (vr 204),none,some (vs "NoTicket" 431),some (vs "NoTicket" 439),some (Value.builtin "LookupError.__new__"),some (vb)] }
def o156 (P:Params):Obj:={ cls:=vt "super",data:=Data.fields #[vr 221,vr 221,vr 221] }
def o157 (P:Params):Obj:={ cls:=vt "builtin_function_or_method",data:=Data.fields #[Value.builtin "object.__init_subclass__",vr 221] }
def o158 (P:Params):Obj:=ot #[vs "text" 467]
def o159 (P:Params):Obj:={ cls:=vn,data:=Data.func { name:=u "is_name",qualname:=u "is_name",params:=TA 16,body:=FuncBody.stmts (TB 16),scope:=TS 16,globals:=0,closure:=[],defaults:=vn,kwdefaults:=vn } }
def o160 (P:Params):Obj:=oc #[vs "is_name" 464,vs "is_name" 465,vf 466,vi 51 0,vi 1 0,vi 0 0,vi 0 0,vi 3 0,vr 224,vb,vi 181 0,vr 225,vn,vr 226,vr 227,vr 228,vi 468 0,vi 51 0,vf 469]
def o161 (P:Params):Obj:=of "is_name" "is_name" (TA 16) (TB 16) (TS 16) vn (vs "lanescribe.kinds" 456) (vr 229)
def o162 (P:Params):Obj:=ot #[vs "text" 474]
def o163 (P:Params):Obj:={ cls:=vn,data:=Data.func { name:=u "need_name",qualname:=u "need_name",params:=TA 17,body:=FuncBody.stmts (TB 17),scope:=TS 17,globals:=0,closure:=[],defaults:=vn,kwdefaults:=vn } }
def o164 (P:Params):Obj:=oc #[vs "need_name" 471,vs "need_name" 472,vf 473,vi 53 0,vi 1 0,vi 0 0,vi 0 0,vi 3 0,vr 231,vb,vi 181 0,vr 232,vn,vr 233,vr 234,vr 235,vi 475 0,vi 53 0,vf 476]
def o165 (P:Params):Obj:=of "need_name" "need_name" (TA 17) (TB 17) (TS 17) vn (vs "lanescribe.kinds" 456) (vr 236)
def o166 (P:Params):Obj:=ot #[vs "fields" 481,vs "seen" 482,vs "name" 483,vs "low" 484,vs "high" 485]
def o167 (P:Params):Obj:={ cls:=vn,data:=Data.func { name:=u "need_fields",qualname:=u "need_fields",params:=TA 18,body:=FuncBody.stmts (TB 18),scope:=TS 18,globals:=0,closure:=[],defaults:=vn,kwdefaults:=vn } }
def o168 (P:Params):Obj:=oc #[vs "need_fields" 478,vs "need_fields" 479,vf 480,vi 56 0,vi 1 0,vi 0 0,vi 0 0,vi 3 0,vr 238,vb,vi 181 0,vr 239,vn,vr 240,vr 241,vr 242,vi 486 0,vi 56 0,vf 487]
def o169 (P:Params):Obj:=of "need_fields" "need_fields" (TA 18) (TB 18) (TS 18) vn (vs "lanescribe.kinds" 456) (vr 243)
def o170 (P:Params):Obj:={ cls:=vn,data:=Data.func { name:=u "bounds_text",qualname:=u "bounds_text",params:=TA 19,body:=FuncBody.stmts (TB 19),scope:=TS 19,globals:=0,closure:=[],defaults:=vn,kwdefaults:=vn } }
def o171 (P:Params):Obj:=oc #[vs "bounds_text" 489,vs "bounds_text" 490,vf 491,vi 65 0,vi 1 0,vi 0 0,vi 0 0,vi 3 0,vr 245,vb,vi 181 0,vr 246,vn,vn,vn,vr 247,vi 492 0,vi 65 0,vf 493]
def o172 (P:Params):Obj:=of "bounds_text" "bounds_text" (TA 19) (TB 19) (TS 19) vn (vs "lanescribe.kinds" 456) (vr 248)
def o173 (P:Params):Obj:={ cls:=vt "dict",data:=Data.dict #[de P "__module__" 502 (vs "lanescribe.kinds" 456),de P "__qualname__" 504 (vs "Kind" 503),de P "__firstlineno__" 506 (vi 67 505),de P "__init__" 515 (vr 265),de P "lowest" 521 (vr 270),de P "cells" 528 (vr 277),de P "place_of" 536 (vr 284),de P "need" 544 (vr 291),de P "__eq__" 552 (vr 298),de P "__len__" 559 (vr 305),de P "__str__" 566 (vr 312),de P "__repr__" 573 (vr 319),de P "__static_attributes__" 576 (vr 320)] 13 }
def o174 (P:Params):Obj:={ cls:=vn,data:=Data.fields #[vi 69 0,vi 4 0,vr 264,vi 77 0,vi 4 0,vr 269,vi 80 0,vi 4 0,vr 276,vi 83 0,vi 4 0,vr 283,vi 86 0,vi 4 0,vr 290,vi 89 0,vi 4 0,vr 297,vi 92 0,vi 4 0,vr 304,vi 95 0,vi 4 0,vr 311,vi 98 0,vi 4 0,vr 318] }
def o175 (P:Params):Obj:=oc #[vs "Kind" 497,vs "Kind" 498,vf 499,vi 67 0,vi 0 0,vi 0 0,vi 0 0,vi 0 0,vr 253,Value.bool false,vi 181 0,vr 254,vn,vn,vn,vn,vi 500 0,vi 67 0,vf 501]
def o176 (P:Params):Obj:={ cls:=vt "frame",slots:=#[some (vr 255),some (vr 3),some (vr 252),none,some (vs "lanescribe.kinds" 456),none,some (vr 0)] }
def o177 (P:Params):Obj:=ot #[vr 257]
def o178 (P:Params):Obj:=ot #[vs "self" 510,vs "name" 511,vs "fields" 512]
def o179 (P:Params):Obj:={ cls:=vn,data:=Data.func { name:=u "__init__",qualname:=u "Kind.__init__",params:=MA 20 0,body:=FuncBody.stmts (MB 20 0),scope:=MS 20 0,globals:=0,closure:=[],defaults:=vn,kwdefaults:=vn } }
def o180 (P:Params):Obj:=oc #[vs "__init__" 507,vs "Kind.__init__" 508,vf 509,vi 69 0,vi 3 0,vi 0 0,vi 0 0,vi 3 0,vr 259,vb,vi 181 0,vr 260,vn,vr 261,vr 262,vr 263,vi 513 0,vi 69 0,vf 514]
def o181 (P:Params):Obj:=of "__init__" "Kind.__init__" (MA 20 0) (MB 20 0) (MS 20 0) (vr 258) (vs "lanescribe.kinds" 456) (vr 264)
def o182 (P:Params):Obj:={ cls:=vn,data:=Data.func { name:=u "lowest",qualname:=u "Kind.lowest",params:=MA 20 1,body:=FuncBody.stmts (MB 20 1),scope:=MS 20 1,globals:=0,closure:=[],defaults:=vn,kwdefaults:=vn } }
def o183 (P:Params):Obj:=oc #[vs "lowest" 516,vs "Kind.lowest" 517,vf 518,vi 77 0,vi 1 0,vi 0 0,vi 0 0,vi 3 0,vr 266,vb,vi 181 0,vr 267,vn,vn,vn,vr 268,vi 519 0,vi 77 0,vf 520]
def o184 (P:Params):Obj:=of "lowest" "Kind.lowest" (MA 20 1) (MB 20 1) (MS 20 1) vn (vs "lanescribe.kinds" 456) (vr 269)
def o185 (P:Params):Obj:=ot #[vs "self" 525]
def o186 (P:Params):Obj:={ cls:=vn,data:=Data.func { name:=u "cells",qualname:=u "Kind.cells",params:=MA 20 2,body:=FuncBody.stmts (MB 20 2),scope:=MS 20 2,globals:=0,closure:=[],defaults:=vn,kwdefaults:=vn } }
def o187 (P:Params):Obj:=oc #[vs "cells" 522,vs "Kind.cells" 523,vf 524,vi 80 0,vi 1 0,vi 0 0,vi 0 0,vi 3 0,vr 271,vb,vi 181 0,vr 272,vn,vr 273,vr 274,vr 275,vi 526 0,vi 80 0,vf 527]
def o188 (P:Params):Obj:=of "cells" "Kind.cells" (MA 20 2) (MB 20 2) (MS 20 2) vn (vs "lanescribe.kinds" 456) (vr 276)
def o189 (P:Params):Obj:=ot #[vs "self" 532,vs "field" 533]
def o190 (P:Params):Obj:={ cls:=vn,data:=Data.func { name:=u "place_of",qualname:=u "Kind.place_of",params:=MA 20 3,body:=FuncBody.stmts (MB 20 3),scope:=MS 20 3,globals:=0,closure:=[],defaults:=vn,kwdefaults:=vn } }
def o191 (P:Params):Obj:=oc #[vs "place_of" 529,vs "Kind.place_of" 530,vf 531,vi 83 0,vi 2 0,vi 0 0,vi 0 0,vi 3 0,vr 278,vb,vi 181 0,vr 279,vn,vr 280,vr 281,vr 282,vi 534 0,vi 83 0,vf 535]
def o192 (P:Params):Obj:=of "place_of" "Kind.place_of" (MA 20 3) (MB 20 3) (MS 20 3) vn (vs "lanescribe.kinds" 456) (vr 283)
def o193 (P:Params):Obj:=ot #[vs "self" 540,vs "values" 541]
def o194 (P:Params):Obj:={ cls:=vn,data:=Data.func { name:=u "need",qualname:=u "Kind.need",params:=MA 20 4,body:=FuncBody.stmts (MB 20 4),scope:=MS 20 4,globals:=0,closure:=[],defaults:=vn,kwdefaults:=vn } }
def o195 (P:Params):Obj:=oc #[vs "need" 537,vs "Kind.need" 538,vf 539,vi 86 0,vi 2 0,vi 0 0,vi 0 0,vi 3 0,vr 285,vb,vi 181 0,vr 286,vn,vr 287,vr 288,vr 289,vi 542 0,vi 86 0,vf 543]
def o196 (P:Params):Obj:=of "need" "Kind.need" (MA 20 4) (MB 20 4) (MS 20 4) vn (vs "lanescribe.kinds" 456) (vr 290)
def o197 (P:Params):Obj:=ot #[vs "self" 548,vs "other" 549]
def o198 (P:Params):Obj:={ cls:=vn,data:=Data.func { name:=u "__eq__",qualname:=u "Kind.__eq__",params:=MA 20 5,body:=FuncBody.stmts (MB 20 5),scope:=MS 20 5,globals:=0,closure:=[],defaults:=vn,kwdefaults:=vn } }
def o199 (P:Params):Obj:=oc #[vs "__eq__" 545,vs "Kind.__eq__" 546,vf 547,vi 89 0,vi 2 0,vi 0 0,vi 0 0,vi 3 0,vr 292,vb,vi 181 0,vr 293,vn,vr 294,vr 295,vr 296,vi 550 0,vi 89 0,vf 551]
def o200 (P:Params):Obj:=of "__eq__" "Kind.__eq__" (MA 20 5) (MB 20 5) (MS 20 5) vn (vs "lanescribe.kinds" 456) (vr 297)
def o201 (P:Params):Obj:=ot #[vs "self" 556]
def o202 (P:Params):Obj:={ cls:=vn,data:=Data.func { name:=u "__len__",qualname:=u "Kind.__len__",params:=MA 20 6,body:=FuncBody.stmts (MB 20 6),scope:=MS 20 6,globals:=0,closure:=[],defaults:=vn,kwdefaults:=vn } }
def o203 (P:Params):Obj:=oc #[vs "__len__" 553,vs "Kind.__len__" 554,vf 555,vi 92 0,vi 1 0,vi 0 0,vi 0 0,vi 3 0,vr 299,vb,vi 181 0,vr 300,vn,vr 301,vr 302,vr 303,vi 557 0,vi 92 0,vf 558]
def o204 (P:Params):Obj:=of "__len__" "Kind.__len__" (MA 20 6) (MB 20 6) (MS 20 6) vn (vs "lanescribe.kinds" 456) (vr 304)
def o205 (P:Params):Obj:=ot #[vs "self" 563]
def o206 (P:Params):Obj:={ cls:=vn,data:=Data.func { name:=u "__str__",qualname:=u "Kind.__str__",params:=MA 20 7,body:=FuncBody.stmts (MB 20 7),scope:=MS 20 7,globals:=0,closure:=[],defaults:=vn,kwdefaults:=vn } }
def o207 (P:Params):Obj:=oc #[vs "__str__" 560,vs "Kind.__str__" 561,vf 562,vi 95 0,vi 1 0,vi 0 0,vi 0 0,vi 3 0,vr 306,vb,vi 181 0,vr 307,vn,vr 308,vr 309,vr 310,vi 564 0,vi 95 0,vf 565]
def o208 (P:Params):Obj:=of "__str__" "Kind.__str__" (MA 20 7) (MB 20 7) (MS 20 7) vn (vs "lanescribe.kinds" 456) (vr 311)
def o209 (P:Params):Obj:=ot #[vs "self" 570]
def o210 (P:Params):Obj:={ cls:=vn,data:=Data.func { name:=u "__repr__",qualname:=u "Kind.__repr__",params:=MA 20 8,body:=FuncBody.stmts (MB 20 8),scope:=MS 20 8,globals:=0,closure:=[],defaults:=vn,kwdefaults:=vn } }
def o211 (P:Params):Obj:=oc #[vs "__repr__" 567,vs "Kind.__repr__" 568,vf 569,vi 98 0,vi 1 0,vi 0 0,vi 0 0,vi 3 0,vr 313,vb,vi 181 0,vr 314,vn,vr 315,vr 316,vr 317,vi 571 0,vi 98 0,vf 572]
def o212 (P:Params):Obj:=of "__repr__" "Kind.__repr__" (MA 20 8) (MB 20 8) (MS 20 8) vn (vs "lanescribe.kinds" 456) (vr 318)
def o213 (P:Params):Obj:=ot #[vs "fields" 574,vs "name" 575]
def o214 (P:Params):Obj:={ cls:=vt "dict",data:=Data.dict #[de P "__module__" 502 (vs "lanescribe.kinds" 456),de P "__firstlineno__" 506 (vi 67 505),de P "__init__" 515 (vr 265),de P "lowest" 521 (vr 270),de P "cells" 528 (vr 277),de P "place_of" 536 (vr 284),de P "need" 544 (vr 291),de P "__eq__" 552 (vr 298),de P "__len__" 559 (vr 305),de P "__str__" 566 (vr 312),de P "__repr__" 573 (vr 319),de P "__static_attributes__" 576 (vr 320),de P "__dict__" 578 (vr 323),de P "__weakref__" 580 (vr 324),de P "__doc__" 581 (vn),de P "__hash__" 582 (vn)] 5 }
def o215 (P:Params):Obj:={ cls:=vt "type",data:=Data.cls { name:=u "Kind",bases:=[vt "object"],mro:=[vr 322,vt "object"],ns:=321,qualname:=u "Kind" },slots:=#[none,none,some (vs "Kind" 495),some (vs "Kind" 503),some (Value.builtin "object.__new__"),some (vb)] }
def o216 (P:Params):Obj:={ cls:=vt "getset_descriptor",data:=Data.fields #[vs "__dict__" 577,vr 322,Value.builtin "function.__dict__",Value.builtin "function.__dict__#set"] }
def o217 (P:Params):Obj:={ cls:=vt "getset_descriptor",data:=Data.fields #[vs "__weakref__" 579,vr 322,Value.builtin "ExceptionGroup.__weakref__",vn] }
def o218 (P:Params):Obj:={ cls:=vt "super",data:=Data.fields #[vr 322,vr 322,vr 322] }
def o219 (P:Params):Obj:={ cls:=vt "builtin_function_or_method",data:=Data.fields #[Value.builtin "object.__init_subclass__",vr 322] }
def h_c21 (P:Params):Heap:=⟨⟨boot_o_0 P::boot_o_1 P::boot_o_2 P::o141 P::boot_o_4 P::boot_o_5 P::boot_o_6 P::boot_o_7 P::boot_o_8 P::boot_o_9 P::boot_o_10 P::o0 P::o142 P::o2 P::o3 P::o0 P::o1 P::o6 P::o0 P::o7 P::o8 P::o9 P::o10 P::o11 P::o12 P::o0 P::o13 P::o14 P::o15 P::o16 P::o0 P::o1 P::o17 P::o0 P::o18 P::o19 P::o20 P::o21 P::o22 P::o98 P::o24 P::o25 P::o26 P::o27 P::o11 P::o28 P::o0 P::o29 P::o30 P::o31 P::o32 P::o0 P::o1 P::o33 P::o0 P::o34 P::o35 P::o36 P::o0 P::o37 P::o38 P::o39 P::o40 P::o27 P::o11 P::o41 P::o0 P::o42 P::o43 P::o44 P::o45 P::o0 P::o1 P::o46 P::o0 P::o47 P::o48 P::o49 P::o0 P::o50 P::o51 P::o52 P::o53 P::o27 P::o11 P::o57 P::o0 P::o58 P::o59 P::o60 P::o61 P::o0 P::o1 P::o62 P::o0 P::o63 P::o64 P::o65 P::o0 P::o66 P::o67 P::o68 P::o69 P::o27 P::o11 P::o70 P::o0 P::o71 P::o72 P::o73 P::o74 P::o0 P::o1 P::o75 P::o0 P::o76 P::o77 P::o78 P::o0 P::o79 P::o80 P::o81 P::o82 P::o27 P::o11 P::o83 P::o0 P::o84 P::o85 P::o86 P::o87 P::o0 P::o1 P::o88 P::o0 P::o89 P::o90 P::o91 P::o0 P::o92 P::o93 P::o94 P::o95 P::o27 P::o11 P::o99 P::o0 P::o100 P::o101 P::o102 P::o103 P::o0 P::o1 P::o104 P::o0 P::o105 P::o106 P::o107 P::o0 P::o108 P::o109 P::o110 P::o111 P::o27 P::o11 P::o112 P::o0 P::o113 P::o114 P::o115 P::o116 P::o0 P::o1 P::o117 P::o0 P::o118 P::o119 P::o120 P::o0 P::o121 P::o122 P::o123 P::o124 P::o125 P::o11 P::o126 P::o0 P::o127 P::o128 P::o129 P::o130 P::o0 P::o1 P::o131 P::o0 P::o132 P::o133 P::o134 P::o135 P::o136 P::o143 P::o138 P::o139 P::o140 P::o144 P::o11 P::o145 P::o0 P::o146 P::o147 P::o148 P::o149 P::o0 P::o1 P::o150 P::o0 P::o151 P::o152 P::o153 P::o0 P::o154 P::o155 P::o156 P::o157 P::o0 P::o1 P::o158 P::o0 P::o159 P::o160 P::o161 P::o0 P::o1 P::o162 P::o0 P::o163 P::o164 P::o165 P::o0 P::o1 P::o166 P::o0 P::o167 P::o168 P::o169 P::o0 P::o1 P::o170 P::o171 P::o172 P::o0 P::o11 P::o173 P::o0 P::o174 P::o175 P::o176 P::o0 P::o177 P::o0 P::o1 P::o178 P::o0 P::o179 P::o180 P::o181 P::o0 P::o1 P::o182 P::o183 P::o184 P::o0 P::o1 P::o185 P::o0 P::o186 P::o187 P::o188 P::o0 P::o1 P::o189 P::o0 P::o190 P::o191 P::o192 P::o0 P::o1 P::o193 P::o0 P::o194 P::o195 P::o196 P::o0 P::o1 P::o197 P::o0 P::o198 P::o199 P::o200 P::o0 P::o1 P::o201 P::o0 P::o202 P::o203 P::o204 P::o0 P::o1 P::o205 P::o0 P::o206 P::o207 P::o208 P::o0 P::o1 P::o209 P::o0 P::o210 P::o211 P::o212 P::o213 P::o214 P::o215 P::o216 P::o217 P::o218 P::o219 P::[]⟩,{ }⟩
abbrev S_c21 (w:World) (os:OsState):Shared:=⟨h_c21 w.params,Array.mk [],{ },585,os⟩
abbrev p_c21:Pos:={ line:=67,col:=0,endLine:=99,endCol:=54 }
abbrev l_21:List Stmt:=((behindTheImports pp).drop 11).take 10
theorem r_21 (w:World) (os:OsState):segRun treeTable pp w 11 an 1 881 (S_c11 w os) (piecesOf l_21 env cd p_c11 [topFrame fp])=some (.next,S_c21 w os,cd,p_c21):=by kernel_rfl
def o220 (P:Params):Obj:={ cls:=vt "dict",data:=Data.dict #[de P "__name__" 165 (vs "lanescribe.lanes" 585),de P "__doc__" 166 (vn),de P "__package__" 167 (vn),de P "__loader__" 168 (Value.builtin "__main__.__loader__#opaque"),de P "__spec__" 169 (vn),de P "__annotations__" 170 (vr 6),de P "__builtins__" 171 (vr 4),de P "__file__" 173 (vf 172),de P "__cached__" 174 (vn),de P "_wall" 193 (vr 21),de P "ScribeError" 225 (vr 39),de P "BadName" 250 (vr 60),de P "BadBounds" 275 (vr 80),de P "BadSize" 300 (vr 100),de P "BadTime" 325 (vr 120),de P "Taken" 350 (vr 140),de P "Full" 375 (vr 160),de P "NotTop" 400 (vr 180),de P "Missing" 430 (vr 200),de P "NoTicket" 455 (vr 221),de P "LIMIT" 459 (vi 999999 458),de P "MOST_LETTERS" 461 (vi 8 460),de P "MOST_FIELDS" 463 (vi 4 462),de P "is_name" 470 (vr 230),de P "need_name" 477 (vr 237),de P "need_fields" 488 (vr 244),de P "bounds_text" 494 (vr 249),de P "Kind" 584 (vr 322),de P "PAGES" 588 (vi 4 587),de P "ROOM" 590 (vi 8 589),de P "FEWEST_PAGES" 592 (vi 2 591),de P "MOST_PAGES" 594 (vi 16 593),de P "LEAST_ROOM" 596 (vi 5 595),de P "MOST_ROOM" 598 (vi 12 597),de P "need_pages" 605 (vr 333),de P "need_room" 612 (vr 340),de P "told_from" 622 (vr 347),de P "place_behind" 631 (vr 354),de P "Claim" 681 (vr 385),de P "Page" 730 (vr 423)] 40 }
def o221 (P:Params):Obj:={ cls:=vn,data:=Data.fields #[vi 1 0,vi 0 0,vr 20,vi 5 0,vi 0 0,vr 27,vi 10 0,vi 0 0,vr 48,vi 14 0,vi 0 0,vr 68,vi 18 0,vi 0 0,vr 88,vi 22 0,vi 0 0,vr 108,vi 26 0,vi 0 0,vr 128,vi 30 0,vi 0 0,vr 148,vi 34 0,vi 0 0,vr 168,vi 38 0,vi 0 0,vr 188,vi 43 0,vi 0 0,vr 209,vi 51 0,vi 0 0,vr 229,vi 53 0,vi 0 0,vr 236,vi 56 0,vi 0 0,vr 243,vi 65 0,vi 0 0,vr 248,vi 67 0,vi 0 0,vr 255,vi 107 0,vi 0 0,vr 332,vi 110 0,vi 0 0,vr 339,vi 113 0,vi 0 0,vr 346,vi 122 0,vi 0 0,vr 353,vi 126 0,vi 0 0,vr 360,vi 140 0,vi 0 0,vr 395] }
def o222 (P:Params):Obj:=ot #[vs "pages" 602]
def o223 (P:Params):Obj:={ cls:=vn,data:=Data.func { name:=u "need_pages",qualname:=u "need_pages",params:=TA 28,body:=FuncBody.stmts (TB 28),scope:=TS 28,globals:=0,closure:=[],defaults:=vn,kwdefaults:=vn } }
def o224 (P:Params):Obj:=oc #[vs "need_pages" 599,vs "need_pages" 600,vf 601,vi 107 0,vi 1 0,vi 0 0,vi 0 0,vi 3 0,vr 327,vb,vi 181 0,vr 328,vn,vr 329,vr 330,vr 331,vi 603 0,vi 107 0,vf 604]
def o225 (P:Params):Obj:=of "need_pages" "need_pages" (TA 28) (TB 28) (TS 28) vn (vs "lanescribe.lanes" 585) (vr 332)
def o226 (P:Params):Obj:=ot #[vs "room" 609]
def o227 (P:Params):Obj:={ cls:=vn,data:=Data.func { name:=u "need_room",qualname:=u "need_room",params:=TA 29,body:=FuncBody.stmts (TB 29),scope:=TS 29,globals:=0,closure:=[],defaults:=vn,kwdefaults:=vn } }
def o228 (P:Params):Obj:=oc #[vs "need_room" 606,vs "need_room" 607,vf 608,vi 110 0,vi 1 0,vi 0 0,vi 0 0,vi 3 0,vr 334,vb,vi 181 0,vr 335,vn,vr 336,vr 337,vr 338,vi 610 0,vi 110 0,vf 611]
def o229 (P:Params):Obj:=of "need_room" "need_room" (TA 29) (TB 29) (TS 29) vn (vs "lanescribe.lanes" 585) (vr 339)
def o230 (P:Params):Obj:=ot #[vs "events" 616,vs "place" 617,vs "told" 618,vs "event" 619]
def o231 (P:Params):Obj:={ cls:=vn,data:=Data.func { name:=u "told_from",qualname:=u "told_from",params:=TA 30,body:=FuncBody.stmts (TB 30),scope:=TS 30,globals:=0,closure:=[],defaults:=vn,kwdefaults:=vn } }
def o232 (P:Params):Obj:=oc #[vs "told_from" 613,vs "told_from" 614,vf 615,vi 113 0,vi 2 0,vi 0 0,vi 0 0,vi 3 0,vr 341,vb,vi 181 0,vr 342,vn,vr 343,vr 344,vr 345,vi 620 0,vi 113 0,vf 621]
def o233 (P:Params):Obj:=of "told_from" "told_from" (TA 30) (TB 30) (TS 30) vn (vs "lanescribe.lanes" 585) (vr 346)
def o234 (P:Params):Obj:=ot #[vs "place" 626,vs "told" 627,vs "thing" 628]
def o235 (P:Params):Obj:={ cls:=vn,data:=Data.func { name:=u "place_behind",qualname:=u "place_behind",params:=TA 31,body:=FuncBody.stmts (TB 31),scope:=TS 31,globals:=0,closure:=[],defaults:=vn,kwdefaults:=vn } }
def o236 (P:Params):Obj:=oc #[vs "place_behind" 623,vs "place_behind" 624,vf 625,vi 122 0,vi 2 0,vi 0 0,vi 0 0,vi 3 0,vr 348,vb,vi 181 0,vr 349,vn,vr 350,vr 351,vr 352,vi 629 0,vi 122 0,vf 630]
def o237 (P:Params):Obj:=of "place_behind" "place_behind" (TA 31) (TB 31) (TS 31) vn (vs "lanescribe.lanes" 585) (vr 353)
def o238 (P:Params):Obj:={ cls:=vt "dict",data:=Data.dict #[de P "__module__" 639 (vs "lanescribe.lanes" 585),de P "__qualname__" 641 (vs "Claim" 640),de P "__firstlineno__" 643 (vi 126 642),de P "__init__" 653 (vr 368),de P "told_at" 661 (vr 375),de P "twin" 668 (vr 382),de P "__static_attributes__" 674 (vr 383)] 7 }
def o239 (P:Params):Obj:={ cls:=vn,data:=Data.fields #[vi 128 0,vi 4 0,vr 367,vi 135 0,vi 4 0,vr 374,vi 138 0,vi 4 0,vr 381] }
def o240 (P:Params):Obj:=oc #[vs "Claim" 634,vs "Claim" 635,vf 636,vi 126 0,vi 0 0,vi 0 0,vi 0 0,vi 0 0,vr 358,Value.bool false,vi 181 0,vr 359,vn,vn,vn,vn,vi 637 0,vi 126 0,vf 638]
def o241 (P:Params):Obj:={ cls:=vt "frame",slots:=#[some (vr 360),some (vr 3),some (vr 357),none,some (vs "lanescribe.lanes" 585),none,some (vr 0)] }
def o242 (P:Params):Obj:=ot #[vs "self" 647,vs "ticket" 648,vs "time" 649,vs "kind" 650]
def o243 (P:Params):Obj:={ cls:=vn,data:=Data.func { name:=u "__init__",qualname:=u "Claim.__init__",params:=MA 32 0,body:=FuncBody.stmts (MB 32 0),scope:=MS 32 0,globals:=0,closure:=[],defaults:=vn,kwdefaults:=vn } }
def o244 (P:Params):Obj:=oc #[vs "__init__" 644,vs "Claim.__init__" 645,vf 646,vi 128 0,vi 4 0,vi 0 0,vi 0 0,vi 3 0,vr 362,vb,vi 181 0,vr 363,vn,vr 364,vr 365,vr 366,vi 651 0,vi 128 0,vf 652]
def o245 (P:Params):Obj:=of "__init__" "Claim.__init__" (MA 32 0) (MB 32 0) (MS 32 0) vn (vs "lanescribe.lanes" 585) (vr 367)
def o246 (P:Params):Obj:=ot #[vs "self" 657,vs "place" 658]
def o247 (P:Params):Obj:={ cls:=vn,data:=Data.func { name:=u "told_at",qualname:=u "Claim.told_at",params:=MA 32 1,body:=FuncBody.stmts (MB 32 1),scope:=MS 32 1,globals:=0,closure:=[],defaults:=vn,kwdefaults:=vn } }
def o248 (P:Params):Obj:=oc #[vs "told_at" 654,vs "Claim.told_at" 655,vf 656,vi 135 0,vi 2 0,vi 0 0,vi 0 0,vi 3 0,vr 369,vb,vi 181 0,vr 370,vn,vr 371,vr 372,vr 373,vi 659 0,vi 135 0,vf 660]
def o249 (P:Params):Obj:=of "told_at" "Claim.told_at" (MA 32 1) (MB 32 1) (MS 32 1) vn (vs "lanescribe.lanes" 585) (vr 374)
def o250 (P:Params):Obj:=ot #[vs "self" 665]
def o251 (P:Params):Obj:={ cls:=vn,data:=Data.func { name:=u "twin",qualname:=u "Claim.twin",params:=MA 32 2,body:=FuncBody.stmts (MB 32 2),scope:=MS 32 2,globals:=0,closure:=[],defaults:=vn,kwdefaults:=vn } }
def o252 (P:Params):Obj:=oc #[vs "twin" 662,vs "Claim.twin" 663,vf 664,vi 138 0,vi 1 0,vi 0 0,vi 0 0,vi 3 0,vr 376,vb,vi 181 0,vr 377,vn,vr 378,vr 379,vr 380,vi 666 0,vi 138 0,vf 667]
def o253 (P:Params):Obj:=of "twin" "Claim.twin" (MA 32 2) (MB 32 2) (MS 32 2) vn (vs "lanescribe.lanes" 585) (vr 381)
def o254 (P:Params):Obj:=ot #[vs "filled" 669,vs "form" 670,vs "given" 671,vs "ticket" 672,vs "time" 673]
def o255 (P:Params):Obj:={ cls:=vt "dict",data:=Data.dict #[de P "__module__" 639 (vs "lanescribe.lanes" 585),de P "__firstlineno__" 643 (vi 126 642),de P "__init__" 653 (vr 368),de P "told_at" 661 (vr 375),de P "twin" 668 (vr 382),de P "__static_attributes__" 674 (vr 383),de P "__dict__" 676 (vr 386),de P "__weakref__" 678 (vr 387),de P "__doc__" 679 (vn)] 4 }
def o256 (P:Params):Obj:={ cls:=vt "type",data:=Data.cls { name:=u "Claim",bases:=[vt "object"],mro:=[vr 385,vt "object"],ns:=384,qualname:=u "Claim" },slots:=#[none,none,some (vs "Claim" 632),some (vs "Claim" 640),some (Value.builtin "object.__new__"),some (vb)] }
def o257 (P:Params):Obj:={ cls:=vt "getset_descriptor",data:=Data.fields #[vs "__dict__" 675,vr 385,Value.builtin "function.__dict__",Value.builtin "function.__dict__#set"] }
def o258 (P:Params):Obj:={ cls:=vt "getset_descriptor",data:=Data.fields #[vs "__weakref__" 677,vr 385,Value.builtin "ExceptionGroup.__weakref__",vn] }
def o259 (P:Params):Obj:={ cls:=vt "super",data:=Data.fields #[vr 385,vr 385,vr 385] }
def o260 (P:Params):Obj:={ cls:=vt "builtin_function_or_method",data:=Data.fields #[Value.builtin "object.__init_subclass__",vr 385] }
def o261 (P:Params):Obj:={ cls:=vt "dict",data:=Data.dict #[de P "__module__" 689 (vs "lanescribe.lanes" 585),de P "__qualname__" 691 (vs "Page" 690),de P "__firstlineno__" 693 (vi 140 692),de P "__init__" 700 (vr 403),de P "unclosed" 706 (vr 408),de P "without" 712 (vr 413),de P "twin" 719 (vr 420),de P "__static_attributes__" 723 (vr 421)] 8 }
def o262 (P:Params):Obj:={ cls:=vn,data:=Data.fields #[vi 142 0,vi 4 0,vr 402,vi 147 0,vi 4 0,vr 407,vi 150 0,vi 4 0,vr 412,vi 153 0,vi 4 0,vr 419] }
def o263 (P:Params):Obj:=oc #[vs "Page" 684,vs "Page" 685,vf 686,vi 140 0,vi 0 0,vi 0 0,vi 0 0,vi 0 0,vr 393,Value.bool false,vi 181 0,vr 394,vn,vn,vn,vn,vi 687 0,vi 140 0,vf 688]
def o264 (P:Params):Obj:={ cls:=vt "frame",slots:=#[some (vr 395),some (vr 3),some (vr 392),none,some (vs "lanescribe.lanes" 585),none,some (vr 0)] }
def o265 (P:Params):Obj:=ot #[vs "self" 697]
def o266 (P:Params):Obj:={ cls:=vn,data:=Data.func { name:=u "__init__",qualname:=u "Page.__init__",params:=MA 33 0,body:=FuncBody.stmts (MB 33 0),scope:=MS 33 0,globals:=0,closure:=[],defaults:=vn,kwdefaults:=vn } }
def o267 (P:Params):Obj:=oc #[vs "__init__" 694,vs "Page.__init__" 695,vf 696,vi 142 0,vi 1 0,vi 0 0,vi 0 0,vi 3 0,vr 397,vb,vi 181 0,vr 398,vn,vr 399,vr 400,vr 401,vi 698 0,vi 142 0,vf 699]
def o268 (P:Params):Obj:=of "__init__" "Page.__init__" (MA 33 0) (MB 33 0) (MS 33 0) vn (vs "lanescribe.lanes" 585) (vr 402)
def o269 (P:Params):Obj:={ cls:=vn,data:=Data.func { name:=u "unclosed",qualname:=u "Page.unclosed",params:=MA 33 1,body:=FuncBody.stmts (MB 33 1),scope:=MS 33 1,globals:=0,closure:=[],defaults:=vn,kwdefaults:=vn } }
def o270 (P:Params):Obj:=oc #[vs "unclosed" 701,vs "Page.unclosed" 702,vf 703,vi 147 0,vi 1 0,vi 0 0,vi 0 0,vi 3 0,vr 404,vb,vi 181 0,vr 405,vn,vn,vn,vr 406,vi 704 0,vi 147 0,vf 705]
def o271 (P:Params):Obj:=of "unclosed" "Page.unclosed" (MA 33 1) (MB 33 1) (MS 33 1) vn (vs "lanescribe.lanes" 585) (vr 407)
def o272 (P:Params):Obj:={ cls:=vn,data:=Data.func { name:=u "without",qualname:=u "Page.without",params:=MA 33 2,body:=FuncBody.stmts (MB 33 2),scope:=MS 33 2,globals:=0,closure:=[],defaults:=vn,kwdefaults:=vn } }
def o273 (P:Params):Obj:=oc #[vs "without" 707,vs "Page.without" 708,vf 709,vi 150 0,vi 2 0,vi 0 0,vi 0 0,vi 3 0,vr 409,vb,vi 181 0,vr 410,vn,vn,vn,vr 411,vi 710 0,vi 150 0,vf 711]
def o274 (P:Params):Obj:=of "without" "Page.without" (MA 33 2) (MB 33 2) (MS 33 2) vn (vs "lanescribe.lanes" 585) (vr 412)
def o275 (P:Params):Obj:=ot #[vs "self" 716]
def o276 (P:Params):Obj:={ cls:=vn,data:=Data.func { name:=u "twin",qualname:=u "Page.twin",params:=MA 33 3,body:=FuncBody.stmts (MB 33 3),scope:=MS 33 3,globals:=0,closure:=[],defaults:=vn,kwdefaults:=vn } }
def o277 (P:Params):Obj:=oc #[vs "twin" 713,vs "Page.twin" 714,vf 715,vi 153 0,vi 1 0,vi 0 0,vi 0 0,vi 3 0,vr 414,vb,vi 181 0,vr 415,vn,vr 416,vr 417,vr 418,vi 717 0,vi 153 0,vf 718]
def o278 (P:Params):Obj:=of "twin" "Page.twin" (MA 33 3) (MB 33 3) (MS 33 3) vn (vs "lanescribe.lanes" 585) (vr 419)
def o279 (P:Params):Obj:=ot #[vs "claims" 720,vs "gone" 721,vs "used" 722]
def o280 (P:Params):Obj:={ cls:=vt "dict",data:=Data.dict #[de P "__module__" 689 (vs "lanescribe.lanes" 585),de P "__firstlineno__" 693 (vi 140 692),de P "__init__" 700 (vr 403),de P "unclosed" 706 (vr 408),de P "without" 712 (vr 413),de P "twin" 719 (vr 420),de P "__static_attributes__" 723 (vr 421),de P "__dict__" 725 (vr 424),de P "__weakref__" 727 (vr 425),de P "__doc__" 728 (vn)] 4 }
def o281 (P:Params):Obj:={ cls:=vt "type",data:=Data.cls { name:=u "Page",bases:=[vt "object"],mro:=[vr 423,vt "object"],ns:=422,qualname:=u "Page" },slots:=#[none,none,some (vs "Page" 682),some (vs "Page" 690),some (Value.builtin "object.__new__"),some (vb)] }
def o282 (P:Params):Obj:={ cls:=vt "getset_descriptor",data:=Data.fields #[vs "__dict__" 724,vr 423,Value.builtin "function.__dict__",Value.builtin "function.__dict__#set"] }
def o283 (P:Params):Obj:={ cls:=vt "getset_descriptor",data:=Data.fields #[vs "__weakref__" 726,vr 423,Value.builtin "ExceptionGroup.__weakref__",vn] }
def o284 (P:Params):Obj:={ cls:=vt "super",data:=Data.fields #[vr 423,vr 423,vr 423] }
def o285 (P:Params):Obj:={ cls:=vt "builtin_function_or_method",data:=Data.fields #[Value.builtin "object.__init_subclass__",vr 423] }
def h_c34 (P:Params):Heap:=⟨⟨boot_o_0 P::boot_o_1 P::boot_o_2 P::o220 P::boot_o_4 P::boot_o_5 P::boot_o_6 P::boot_o_7 P::boot_o_8 P::boot_o_9 P::boot_o_10 P::o0 P::o221 P::o2 P::o3 P::o0 P::o1 P::o6 P::o0 P::o7 P::o8 P::o9 P::o10 P::o11 P::o12 P::o0 P::o13 P::o14 P::o15 P::o16 P::o0 P::o1 P::o17 P::o0 P::o18 P::o19 P::o20 P::o21 P::o22 P::o98 P::o24 P::o25 P::o26 P::o27 P::o11 P::o28 P::o0 P::o29 P::o30 P::o31 P::o32 P::o0 P::o1 P::o33 P::o0 P::o34 P::o35 P::o36 P::o0 P::o37 P::o38 P::o39 P::o40 P::o27 P::o11 P::o41 P::o0 P::o42 P::o43 P::o44 P::o45 P::o0 P::o1 P::o46 P::o0 P::o47 P::o48 P::o49 P::o0 P::o50 P::o51 P::o52 P::o53 P::o27 P::o11 P::o57 P::o0 P::o58 P::o59 P::o60 P::o61 P::o0 P::o1 P::o62 P::o0 P::o63 P::o64 P::o65 P::o0 P::o66 P::o67 P::o68 P::o69 P::o27 P::o11 P::o70 P::o0 P::o71 P::o72 P::o73 P::o74 P::o0 P::o1 P::o75 P::o0 P::o76 P::o77 P::o78 P::o0 P::o79 P::o80 P::o81 P::o82 P::o27 P::o11 P::o83 P::o0 P::o84 P::o85 P::o86 P::o87 P::o0 P::o1 P::o88 P::o0 P::o89 P::o90 P::o91 P::o0 P::o92 P::o93 P::o94 P::o95 P::o27 P::o11 P::o99 P::o0 P::o100 P::o101 P::o102 P::o103 P::o0 P::o1 P::o104 P::o0 P::o105 P::o106 P::o107 P::o0 P::o108 P::o109 P::o110 P::o111 P::o27 P::o11 P::o112 P::o0 P::o113 P::o114 P::o115 P::o116 P::o0 P::o1 P::o117 P::o0 P::o118 P::o119 P::o120 P::o0 P::o121 P::o122 P::o123 P::o124 P::o125 P::o11 P::o126 P::o0 P::o127 P::o128 P::o129 P::o130 P::o0 P::o1 P::o131 P::o0 P::o132 P::o133 P::o134 P::o135 P::o136 P::o143 P::o138 P::o139 P::o140 P::o144 P::o11 P::o145 P::o0 P::o146 P::o147 P::o148 P::o149 P::o0 P::o1 P::o150 P::o0 P::o151 P::o152 P::o153 P::o0 P::o154 P::o155 P::o156 P::o157 P::o0 P::o1 P::o158 P::o0 P::o159 P::o160 P::o161 P::o0 P::o1 P::o162 P::o0 P::o163 P::o164 P::o165 P::o0 P::o1 P::o166 P::o0 P::o167 P::o168 P::o169 P::o0 P::o1 P::o170 P::o171 P::o172 P::o0 P::o11 P::o173 P::o0 P::o174 P::o175 P::o176 P::o0 P::o177 P::o0 P::o1 P::o178 P::o0 P::o179 P::o180 P::o181 P::o0 P::o1 P::o182 P::o183 P::o184 P::o0 P::o1 P::o185 P::o0 P::o186 P::o187 P::o188 P::o0 P::o1 P::o189 P::o0 P::o190 P::o191 P::o192 P::o0 P::o1 P::o193 P::o0 P::o194 P::o195 P::o196 P::o0 P::o1 P::o197 P::o0 P::o198 P::o199 P::o200 P::o0 P::o1 P::o201 P::o0 P::o202 P::o203 P::o204 P::o0 P::o1 P::o205 P::o0 P::o206 P::o207 P::o208 P::o0 P::o1 P::o209 P::o0 P::o210 P::o211 P::o212 P::o213 P::o214 P::o215 P::o216 P::o217 P::o218 P::o219 P::o0 P::o1 P::o222 P::o0 P::o223 P::o224 P::o225 P::o0 P::o1 P::o226 P::o0 P::o227 P::o228 P::o229 P::o0 P::o1 P::o230 P::o0 P::o231 P::o232 P::o233 P::o0 P::o1 P::o234 P::o0 P::o235 P::o236 P::o237 P::o0 P::o11 P::o238 P::o0 P::o239 P::o240 P::o241 P::o0 P::o1 P::o242 P::o0 P::o243 P::o244 P::o245 P::o0 P::o1 P::o246 P::o0 P::o247 P::o248 P::o249 P::o0 P::o1 P::o250 P::o0 P::o251 P::o252 P::o253 P::o254 P::o255 P::o256 P::o257 P::o258 P::o259 P::o260 P::o0 P::o11 P::o261 P::o0 P::o262 P::o263 P::o264 P::o0 P::o1 P::o265 P::o0 P::o266 P::o267 P::o268 P::o0 P::o1 P::o269 P::o270 P::o271 P::o0 P::o1 P::o272 P::o273 P::o274 P::o0 P::o1 P::o275 P::o0 P::o276 P::o277 P::o278 P::o279 P::o280 P::o281 P::o282 P::o283 P::o284 P::o285 P::[]⟩,{ }⟩
abbrev S_c34 (w:World) (os:OsState):Shared:=⟨h_c34 w.params,Array.mk [],{ },731,os⟩
abbrev p_c34:Pos:={ line:=140,col:=0,endLine:=154,endCol:=16 }
abbrev l_34:List Stmt:=((behindTheImports pp).drop 21).take 13
theorem r_34 (w:World) (os:OsState):segRun treeTable pp w 11 an 1 786 (S_c21 w os) (piecesOf l_34 env cd p_c21 [topFrame fp])=some (.next,S_c34 w os,cd,p_c34):=by kernel_rfl
def o286 (P:Params):Obj:={ cls:=vt "dict",data:=Data.dict #[de P "__name__" 165 (vs "lanescribe.lanes" 585),de P "__doc__" 166 (vn),de P "__package__" 167 (vn),de P "__loader__" 168 (Value.builtin "__main__.__loader__#opaque"),de P "__spec__" 169 (vn),de P "__annotations__" 170 (vr 6),de P "__builtins__" 171 (vr 4),de P "__file__" 173 (vf 172),de P "__cached__" 174 (vn),de P "_wall" 193 (vr 21),de P "ScribeError" 225 (vr 39),de P "BadName" 250 (vr 60),de P "BadBounds" 275 (vr 80),de P "BadSize" 300 (vr 100),de P "BadTime" 325 (vr 120),de P "Taken" 350 (vr 140),de P "Full" 375 (vr 160),de P "NotTop" 400 (vr 180),de P "Missing" 430 (vr 200),de P "NoTicket" 455 (vr 221),de P "LIMIT" 459 (vi 999999 458),de P "MOST_LETTERS" 461 (vi 8 460),de P "MOST_FIELDS" 463 (vi 4 462),de P "is_name" 470 (vr 230),de P "need_name" 477 (vr 237),de P "need_fields" 488 (vr 244),de P "bounds_text" 494 (vr 249),de P "Kind" 584 (vr 322),de P "PAGES" 588 (vi 4 587),de P "ROOM" 590 (vi 8 589),de P "FEWEST_PAGES" 592 (vi 2 591),de P "MOST_PAGES" 594 (vi 16 593),de P "LEAST_ROOM" 596 (vi 5 595),de P "MOST_ROOM" 598 (vi 12 597),de P "need_pages" 605 (vr 333),de P "need_room" 612 (vr 340),de P "told_from" 622 (vr 347),de P "place_behind" 631 (vr 354),de P "Claim" 681 (vr 385),de P "Page" 730 (vr 423),de P "Lane" 962 (vr 602)] 41 }
def o287 (P:Params):Obj:={ cls:=vn,data:=Data.fields #[vi 1 0,vi 0 0,vr 20,vi 5 0,vi 0 0,vr 27,vi 10 0,vi 0 0,vr 48,vi 14 0,vi 0 0,vr 68,vi 18 0,vi 0 0,vr 88,vi 22 0,vi 0 0,vr 108,vi 26 0,vi 0 0,vr 128,vi 30 0,vi 0 0,vr 148,vi 34 0,vi 0 0,vr 168,vi 38 0,vi 0 0,vr 188,vi 43 0,vi 0 0,vr 209,vi 51 0,vi 0 0,vr 229,vi 53 0,vi 0 0,vr 236,vi 56 0,vi 0 0,vr 243,vi 65 0,vi 0 0,vr 248,vi 67 0,vi 0 0,vr 255,vi 107 0,vi 0 0,vr 332,vi 110 0,vi 0 0,vr 339,vi 113 0,vi 0 0,vr 346,vi 122 0,vi 0 0,vr 353,vi 126 0,vi 0 0,vr 360,vi 140 0,vi 0 0,vr 395,vi 155 0,vi 0 0,vr 433] }
def o288 (P:Params):Obj:={ cls:=vt "dict",data:=Data.dict #[de P "__module__" 738 (vs "lanescribe.lanes" 585),de P "__qualname__" 740 (vs "Lane" 739),de P "__firstlineno__" 742 (vi 155 741),de P "__init__" 755 (vr 442),de P "claim" 765 (vr 449),de P "make_room" 773 (vr 456),de P "eldest" 780 (vr 463),de P "lose_eldest" 787 (vr 470),de P "leave" 797 (vr 477),de P "waiting" 803 (vr 482),de P "waiting_with" 812 (vr 489),de P "last_waiting" 821 (vr 496),de P "fill" 830 (vr 503),de P "give" 839 (vr 510),de P "throw" 850 (vr 517),de P "standing" 861 (vr 524),de P "look" 868 (vr 531),de P "take" 876 (vr 538),de P "hold" 884 (vr 545),de P "pending" 891 (vr 552),de P "event" 900 (vr 559),de P "resize" 908 (vr 566),de P "counts" 915 (vr 573),de P "pages_now" 922 (vr 580),de P "twin" 929 (vr 587),de P "__len__" 935 (vr 592),de P "__repr__" 942 (vr 599),de P "__static_attributes__" 955 (vr 600)] 28 }
def o289 (P:Params):Obj:={ cls:=vn,data:=Data.fields #[vi 157 0,vi 4 0,vr 441,vi 173 0,vi 4 0,vr 448,vi 186 0,vi 4 0,vr 455,vi 196 0,vi 4 0,vr 462,vi 199 0,vi 4 0,vr 469,vi 203 0,vi 4 0,vr 476,vi 208 0,vi 4 0,vr 481,vi 211 0,vi 4 0,vr 488,vi 217 0,vi 4 0,vr 495,vi 223 0,vi 4 0,vr 502,vi 226 0,vi 4 0,vr 509,vi 231 0,vi 4 0,vr 516,vi 240 0,vi 4 0,vr 523,vi 252 0,vi 4 0,vr 530,vi 255 0,vi 4 0,vr 537,vi 264 0,vi 4 0,vr 544,vi 269 0,vi 4 0,vr 551,vi 272 0,vi 4 0,vr 558,vi 276 0,vi 4 0,vr 565,vi 279 0,vi 4 0,vr 572,vi 282 0,vi 4 0,vr 579,vi 285 0,vi 4 0,vr 586,vi 288 0,vi 4 0,vr 591,vi 291 0,vi 4 0,vr 598] }
def o290 (P:Params):Obj:=oc #[vs "Lane" 733,vs "Lane" 734,vf 735,vi 155 0,vi 0 0,vi 0 0,vi 0 0,vi 0 0,vr 431,Value.bool false,vi 181 0,vr 432,vn,vn,vn,vn,vi 736 0,vi 155 0,vf 737]
def o291 (P:Params):Obj:={ cls:=vt "frame",slots:=#[some (vr 433),some (vr 3),some (vr 430),none,some (vs "lanescribe.lanes" 585),none,some (vr 0)] }
def o292 (P:Params):Obj:={ cls:=vt "dict",data:=Data.dict #[de P "pages" 743 (vi 4 587),de P "room" 744 (vi 8 589),de P "over" 745 (vb)] 3 }
def o293 (P:Params):Obj:=ot #[vs "self" 749,vs "pages" 750,vs "room" 751,vs "over" 752]
def o294 (P:Params):Obj:={ cls:=vn,data:=Data.func { name:=u "__init__",qualname:=u "Lane.__init__",params:=MA 34 0,body:=FuncBody.stmts (MB 34 0),scope:=MS 34 0,globals:=0,closure:=[],defaults:=vn,kwdefaults:=vn } }
def o295 (P:Params):Obj:=oc #[vs "__init__" 746,vs "Lane.__init__" 747,vf 748,vi 157 0,vi 1 0,vi 0 0,vi 3 0,vi 3 0,vr 436,vb,vi 181 0,vr 437,vn,vr 438,vr 439,vr 440,vi 753 0,vi 157 0,vf 754]
def o296 (P:Params):Obj:={ cls:=vt "function",data:=Data.func { name:=u "__init__",qualname:=u "Lane.__init__",params:=MA 34 0,body:=FuncBody.stmts (MB 34 0),scope:=MS 34 0,globals:=3,closure:=[],defaults:=vn,kwdefaults:=vr 435,pyModule:=vs "lanescribe.lanes" 585,code:=vr 441 } }
def o297 (P:Params):Obj:=ot #[vs "self" 759,vs "kind" 760,vs "time" 761,vs "head" 762]
def o298 (P:Params):Obj:={ cls:=vn,data:=Data.func { name:=u "claim",qualname:=u "Lane.claim",params:=MA 34 1,body:=FuncBody.stmts (MB 34 1),scope:=MS 34 1,globals:=0,closure:=[],defaults:=vn,kwdefaults:=vn } }
def o299 (P:Params):Obj:=oc #[vs "claim" 756,vs "Lane.claim" 757,vf 758,vi 173 0,vi 3 0,vi 0 0,vi 0 0,vi 3 0,vr 443,vb,vi 181 0,vr 444,vn,vr 445,vr 446,vr 447,vi 763 0,vi 173 0,vf 764]
def o300 (P:Params):Obj:=of "claim" "Lane.claim" (MA 34 1) (MB 34 1) (MS 34 1) vn (vs "lanescribe.lanes" 585) (vr 448)
def o301 (P:Params):Obj:=ot #[vs "self" 769,vs "cells" 770]
def o302 (P:Params):Obj:={ cls:=vn,data:=Data.func { name:=u "make_room",qualname:=u "Lane.make_room",params:=MA 34 2,body:=FuncBody.stmts (MB 34 2),scope:=MS 34 2,globals:=0,closure:=[],defaults:=vn,kwdefaults:=vn } }
def o303 (P:Params):Obj:=oc #[vs "make_room" 766,vs "Lane.make_room" 767,vf 768,vi 186 0,vi 2 0,vi 0 0,vi 0 0,vi 3 0,vr 450,vb,vi 181 0,vr 451,vn,vr 452,vr 453,vr 454,vi 771 0,vi 186 0,vf 772]
def o304 (P:Params):Obj:=of "make_room" "Lane.make_room" (MA 34 2) (MB 34 2) (MS 34 2) vn (vs "lanescribe.lanes" 585) (vr 455)
def o305 (P:Params):Obj:=ot #[vs "self" 777]
def o306 (P:Params):Obj:={ cls:=vn,data:=Data.func { name:=u "eldest",qualname:=u "Lane.eldest",params:=MA 34 3,body:=FuncBody.stmts (MB 34 3),scope:=MS 34 3,globals:=0,closure:=[],defaults:=vn,kwdefaults:=vn } }
def o307 (P:Params):Obj:=oc #[vs "eldest" 774,vs "Lane.eldest" 775,vf 776,vi 196 0,vi 1 0,vi 0 0,vi 0 0,vi 3 0,vr 457,vb,vi 181 0,vr 458,vn,vr 459,vr 460,vr 461,vi 778 0,vi 196 0,vf 779]
def o308 (P:Params):Obj:=of "eldest" "Lane.eldest" (MA 34 3) (MB 34 3) (MS 34 3) vn (vs "lanescribe.lanes" 585) (vr 462)
def o309 (P:Params):Obj:=ot #[vs "self" 784]
def o310 (P:Params):Obj:={ cls:=vn,data:=Data.func { name:=u "lose_eldest",qualname:=u "Lane.lose_eldest",params:=MA 34 4,body:=FuncBody.stmts (MB 34 4),scope:=MS 34 4,globals:=0,closure:=[],defaults:=vn,kwdefaults:=vn } }
def o311 (P:Params):Obj:=oc #[vs "lose_eldest" 781,vs "Lane.lose_eldest" 782,vf 783,vi 199 0,vi 1 0,vi 0 0,vi 0 0,vi 3 0,vr 464,vb,vi 181 0,vr 465,vn,vr 466,vr 467,vr 468,vi 785 0,vi 199 0,vf 786]
def o312 (P:Params):Obj:=of "lose_eldest" "Lane.lose_eldest" (MA 34 4) (MB 34 4) (MS 34 4) vn (vs "lanescribe.lanes" 585) (vr 469)
def o313 (P:Params):Obj:=ot #[vs "self" 791,vs "number" 792,vs "page" 793,vs "later" 794]
def o314 (P:Params):Obj:={ cls:=vn,data:=Data.func { name:=u "leave",qualname:=u "Lane.leave",params:=MA 34 5,body:=FuncBody.stmts (MB 34 5),scope:=MS 34 5,globals:=0,closure:=[],defaults:=vn,kwdefaults:=vn } }
def o315 (P:Params):Obj:=oc #[vs "leave" 788,vs "Lane.leave" 789,vf 790,vi 203 0,vi 2 0,vi 0 0,vi 0 0,vi 3 0,vr 471,vb,vi 181 0,vr 472,vn,vr 473,vr 474,vr 475,vi 795 0,vi 203 0,vf 796]
def o316 (P:Params):Obj:=of "leave" "Lane.leave" (MA 34 5) (MB 34 5) (MS 34 5) vn (vs "lanescribe.lanes" 585) (vr 476)
def o317 (P:Params):Obj:={ cls:=vn,data:=Data.func { name:=u "waiting",qualname:=u "Lane.waiting",params:=MA 34 6,body:=FuncBody.stmts (MB 34 6),scope:=MS 34 6,globals:=0,closure:=[],defaults:=vn,kwdefaults:=vn } }
def o318 (P:Params):Obj:=oc #[vs "waiting" 798,vs "Lane.waiting" 799,vf 800,vi 208 0,vi 1 0,vi 0 0,vi 0 0,vi 3 0,vr 478,vb,vi 181 0,vr 479,vn,vn,vn,vr 480,vi 801 0,vi 208 0,vf 802]
def o319 (P:Params):Obj:=of "waiting" "Lane.waiting" (MA 34 6) (MB 34 6) (MS 34 6) vn (vs "lanescribe.lanes" 585) (vr 481)
def o320 (P:Params):Obj:=ot #[vs "self" 807,vs "ticket" 808,vs "claim" 809]
def o321 (P:Params):Obj:={ cls:=vn,data:=Data.func { name:=u "waiting_with",qualname:=u "Lane.waiting_with",params:=MA 34 7,body:=FuncBody.stmts (MB 34 7),scope:=MS 34 7,globals:=0,closure:=[],defaults:=vn,kwdefaults:=vn } }
def o322 (P:Params):Obj:=oc #[vs "waiting_with" 804,vs "Lane.waiting_with" 805,vf 806,vi 211 0,vi 2 0,vi 0 0,vi 0 0,vi 3 0,vr 483,vb,vi 181 0,vr 484,vn,vr 485,vr 486,vr 487,vi 810 0,vi 211 0,vf 811]
def o323 (P:Params):Obj:=of "waiting_with" "Lane.waiting_with" (MA 34 7) (MB 34 7) (MS 34 7) vn (vs "lanescribe.lanes" 585) (vr 488)
def o324 (P:Params):Obj:=ot #[vs "self" 816,vs "ticket" 817,vs "claim" 818]
def o325 (P:Params):Obj:={ cls:=vn,data:=Data.func { name:=u "last_waiting",qualname:=u "Lane.last_waiting",params:=MA 34 8,body:=FuncBody.stmts (MB 34 8),scope:=MS 34 8,globals:=0,closure:=[],defaults:=vn,kwdefaults:=vn } }
def o326 (P:Params):Obj:=oc #[vs "last_waiting" 813,vs "Lane.last_waiting" 814,vf 815,vi 217 0,vi 2 0,vi 0 0,vi 0 0,vi 3 0,vr 490,vb,vi 181 0,vr 491,vn,vr 492,vr 493,vr 494,vi 819 0,vi 217 0,vf 820]
def o327 (P:Params):Obj:=of "last_waiting" "Lane.last_waiting" (MA 34 8) (MB 34 8) (MS 34 8) vn (vs "lanescribe.lanes" 585) (vr 495)
def o328 (P:Params):Obj:=ot #[vs "self" 825,vs "ticket" 826,vs "values" 827]
def o329 (P:Params):Obj:={ cls:=vn,data:=Data.func { name:=u "fill",qualname:=u "Lane.fill",params:=MA 34 9,body:=FuncBody.stmts (MB 34 9),scope:=MS 34 9,globals:=0,closure:=[],defaults:=vn,kwdefaults:=vn } }
def o330 (P:Params):Obj:=oc #[vs "fill" 822,vs "Lane.fill" 823,vf 824,vi 223 0,vi 3 0,vi 0 0,vi 0 0,vi 3 0,vr 497,vb,vi 181 0,vr 498,vn,vr 499,vr 500,vr 501,vi 828 0,vi 223 0,vf 829]
def o331 (P:Params):Obj:=of "fill" "Lane.fill" (MA 34 9) (MB 34 9) (MS 34 9) vn (vs "lanescribe.lanes" 585) (vr 502)
def o332 (P:Params):Obj:=ot #[vs "self" 834,vs "ticket" 835,vs "claim" 836]
def o333 (P:Params):Obj:={ cls:=vn,data:=Data.func { name:=u "give",qualname:=u "Lane.give",params:=MA 34 10,body:=FuncBody.stmts (MB 34 10),scope:=MS 34 10,globals:=0,closure:=[],defaults:=vn,kwdefaults:=vn } }
def o334 (P:Params):Obj:=oc #[vs "give" 831,vs "Lane.give" 832,vf 833,vi 226 0,vi 2 0,vi 0 0,vi 0 0,vi 3 0,vr 504,vb,vi 181 0,vr 505,vn,vr 506,vr 507,vr 508,vi 837 0,vi 226 0,vf 838]
def o335 (P:Params):Obj:=of "give" "Lane.give" (MA 34 10) (MB 34 10) (MS 34 10) vn (vs "lanescribe.lanes" 585) (vr 509)
def o336 (P:Params):Obj:=ot #[vs "self" 843,vs "ticket" 844,vs "claim" 845,vs "head" 846,vs "page" 847]
def o337 (P:Params):Obj:={ cls:=vn,data:=Data.func { name:=u "throw",qualname:=u "Lane.throw",params:=MA 34 11,body:=FuncBody.stmts (MB 34 11),scope:=MS 34 11,globals:=0,closure:=[],defaults:=vn,kwdefaults:=vn } }
def o338 (P:Params):Obj:=oc #[vs "throw" 840,vs "Lane.throw" 841,vf 842,vi 231 0,vi 2 0,vi 0 0,vi 0 0,vi 3 0,vr 511,vb,vi 181 0,vr 512,vn,vr 513,vr 514,vr 515,vi 848 0,vi 231 0,vf 849]
def o339 (P:Params):Obj:=of "throw" "Lane.throw" (MA 34 11) (MB 34 11) (MS 34 11) vn (vs "lanescribe.lanes" 585) (vr 516)
def o340 (P:Params):Obj:=ot #[vs "self" 854,vs "events" 855,vs "place" 856,vs "page" 857,vs "claim" 858]
def o341 (P:Params):Obj:={ cls:=vn,data:=Data.func { name:=u "standing",qualname:=u "Lane.standing",params:=MA 34 12,body:=FuncBody.stmts (MB 34 12),scope:=MS 34 12,globals:=0,closure:=[],defaults:=vn,kwdefaults:=vn } }
def o342 (P:Params):Obj:=oc #[vs "standing" 851,vs "Lane.standing" 852,vf 853,vi 240 0,vi 1 0,vi 0 0,vi 0 0,vi 3 0,vr 518,vb,vi 181 0,vr 519,vn,vr 520,vr 521,vr 522,vi 859 0,vi 240 0,vf 860]
def o343 (P:Params):Obj:=of "standing" "Lane.standing" (MA 34 12) (MB 34 12) (MS 34 12) vn (vs "lanescribe.lanes" 585) (vr 523)
def o344 (P:Params):Obj:=ot #[vs "self" 865]
def o345 (P:Params):Obj:={ cls:=vn,data:=Data.func { name:=u "look",qualname:=u "Lane.look",params:=MA 34 13,body:=FuncBody.stmts (MB 34 13),scope:=MS 34 13,globals:=0,closure:=[],defaults:=vn,kwdefaults:=vn } }
def o346 (P:Params):Obj:=oc #[vs "look" 862,vs "Lane.look" 863,vf 864,vi 252 0,vi 1 0,vi 0 0,vi 0 0,vi 3 0,vr 525,vb,vi 181 0,vr 526,vn,vr 527,vr 528,vr 529,vi 866 0,vi 252 0,vf 867]
def o347 (P:Params):Obj:=of "look" "Lane.look" (MA 34 13) (MB 34 13) (MS 34 13) vn (vs "lanescribe.lanes" 585) (vr 530)
def o348 (P:Params):Obj:=ot #[vs "self" 872,vs "told" 873]
def o349 (P:Params):Obj:={ cls:=vn,data:=Data.func { name:=u "take",qualname:=u "Lane.take",params:=MA 34 14,body:=FuncBody.stmts (MB 34 14),scope:=MS 34 14,globals:=0,closure:=[],defaults:=vn,kwdefaults:=vn } }
def o350 (P:Params):Obj:=oc #[vs "take" 869,vs "Lane.take" 870,vf 871,vi 255 0,vi 1 0,vi 0 0,vi 0 0,vi 3 0,vr 532,vb,vi 181 0,vr 533,vn,vr 534,vr 535,vr 536,vi 874 0,vi 255 0,vf 875]
def o351 (P:Params):Obj:=of "take" "Lane.take" (MA 34 14) (MB 34 14) (MS 34 14) vn (vs "lanescribe.lanes" 585) (vr 537)
def o352 (P:Params):Obj:=ot #[vs "self" 880,vs "place" 881]
def o353 (P:Params):Obj:={ cls:=vn,data:=Data.func { name:=u "hold",qualname:=u "Lane.hold",params:=MA 34 15,body:=FuncBody.stmts (MB 34 15),scope:=MS 34 15,globals:=0,closure:=[],defaults:=vn,kwdefaults:=vn } }
def o354 (P:Params):Obj:=oc #[vs "hold" 877,vs "Lane.hold" 878,vf 879,vi 264 0,vi 2 0,vi 0 0,vi 0 0,vi 3 0,vr 539,vb,vi 181 0,vr 540,vn,vr 541,vr 542,vr 543,vi 882 0,vi 264 0,vf 883]
def o355 (P:Params):Obj:=of "hold" "Lane.hold" (MA 34 15) (MB 34 15) (MS 34 15) vn (vs "lanescribe.lanes" 585) (vr 544)
def o356 (P:Params):Obj:=ot #[vs "self" 888]
def o357 (P:Params):Obj:={ cls:=vn,data:=Data.func { name:=u "pending",qualname:=u "Lane.pending",params:=MA 34 16,body:=FuncBody.stmts (MB 34 16),scope:=MS 34 16,globals:=0,closure:=[],defaults:=vn,kwdefaults:=vn } }
def o358 (P:Params):Obj:=oc #[vs "pending" 885,vs "Lane.pending" 886,vf 887,vi 269 0,vi 1 0,vi 0 0,vi 0 0,vi 3 0,vr 546,vb,vi 181 0,vr 547,vn,vr 548,vr 549,vr 550,vi 889 0,vi 269 0,vf 890]
def o359 (P:Params):Obj:=of "pending" "Lane.pending" (MA 34 16) (MB 34 16) (MS 34 16) vn (vs "lanescribe.lanes" 585) (vr 551)
def o360 (P:Params):Obj:=ot #[vs "self" 895,vs "ticket" 896,vs "claim" 897]
def o361 (P:Params):Obj:={ cls:=vn,data:=Data.func { name:=u "event",qualname:=u "Lane.event",params:=MA 34 17,body:=FuncBody.stmts (MB 34 17),scope:=MS 34 17,globals:=0,closure:=[],defaults:=vn,kwdefaults:=vn } }
def o362 (P:Params):Obj:=oc #[vs "event" 892,vs "Lane.event" 893,vf 894,vi 272 0,vi 2 0,vi 0 0,vi 0 0,vi 3 0,vr 553,vb,vi 181 0,vr 554,vn,vr 555,vr 556,vr 557,vi 898 0,vi 272 0,vf 899]
def o363 (P:Params):Obj:=of "event" "Lane.event" (MA 34 17) (MB 34 17) (MS 34 17) vn (vs "lanescribe.lanes" 585) (vr 558)
def o364 (P:Params):Obj:=ot #[vs "self" 904,vs "pages" 905]
def o365 (P:Params):Obj:={ cls:=vn,data:=Data.func { name:=u "resize",qualname:=u "Lane.resize",params:=MA 34 18,body:=FuncBody.stmts (MB 34 18),scope:=MS 34 18,globals:=0,closure:=[],defaults:=vn,kwdefaults:=vn } }
def o366 (P:Params):Obj:=oc #[vs "resize" 901,vs "Lane.resize" 902,vf 903,vi 276 0,vi 2 0,vi 0 0,vi 0 0,vi 3 0,vr 560,vb,vi 181 0,vr 561,vn,vr 562,vr 563,vr 564,vi 906 0,vi 276 0,vf 907]
def o367 (P:Params):Obj:=of "resize" "Lane.resize" (MA 34 18) (MB 34 18) (MS 34 18) vn (vs "lanescribe.lanes" 585) (vr 565)
def o368 (P:Params):Obj:=ot #[vs "self" 912]
def o369 (P:Params):Obj:={ cls:=vn,data:=Data.func { name:=u "counts",qualname:=u "Lane.counts",params:=MA 34 19,body:=FuncBody.stmts (MB 34 19),scope:=MS 34 19,globals:=0,closure:=[],defaults:=vn,kwdefaults:=vn } }
def o370 (P:Params):Obj:=oc #[vs "counts" 909,vs "Lane.counts" 910,vf 911,vi 279 0,vi 1 0,vi 0 0,vi 0 0,vi 3 0,vr 567,vb,vi 181 0,vr 568,vn,vr 569,vr 570,vr 571,vi 913 0,vi 279 0,vf 914]
def o371 (P:Params):Obj:=of "counts" "Lane.counts" (MA 34 19) (MB 34 19) (MS 34 19) vn (vs "lanescribe.lanes" 585) (vr 572)
def o372 (P:Params):Obj:=ot #[vs "self" 919]
def o373 (P:Params):Obj:={ cls:=vn,data:=Data.func { name:=u "pages_now",qualname:=u "Lane.pages_now",params:=MA 34 20,body:=FuncBody.stmts (MB 34 20),scope:=MS 34 20,globals:=0,closure:=[],defaults:=vn,kwdefaults:=vn } }
def o374 (P:Params):Obj:=oc #[vs "pages_now" 916,vs "Lane.pages_now" 917,vf 918,vi 282 0,vi 1 0,vi 0 0,vi 0 0,vi 3 0,vr 574,vb,vi 181 0,vr 575,vn,vr 576,vr 577,vr 578,vi 920 0,vi 282 0,vf 921]
def o375 (P:Params):Obj:=of "pages_now" "Lane.pages_now" (MA 34 20) (MB 34 20) (MS 34 20) vn (vs "lanescribe.lanes" 585) (vr 579)
def o376 (P:Params):Obj:=ot #[vs "self" 926]
def o377 (P:Params):Obj:={ cls:=vn,data:=Data.func { name:=u "twin",qualname:=u "Lane.twin",params:=MA 34 21,body:=FuncBody.stmts (MB 34 21),scope:=MS 34 21,globals:=0,closure:=[],defaults:=vn,kwdefaults:=vn } }
def o378 (P:Params):Obj:=oc #[vs "twin" 923,vs "Lane.twin" 924,vf 925,vi 285 0,vi 1 0,vi 0 0,vi 0 0,vi 3 0,vr 581,vb,vi 181 0,vr 582,vn,vr 583,vr 584,vr 585,vi 927 0,vi 285 0,vf 928]
def o379 (P:Params):Obj:=of "twin" "Lane.twin" (MA 34 21) (MB 34 21) (MS 34 21) vn (vs "lanescribe.lanes" 585) (vr 586)
def o380 (P:Params):Obj:={ cls:=vn,data:=Data.func { name:=u "__len__",qualname:=u "Lane.__len__",params:=MA 34 22,body:=FuncBody.stmts (MB 34 22),scope:=MS 34 22,globals:=0,closure:=[],defaults:=vn,kwdefaults:=vn } }
def o381 (P:Params):Obj:=oc #[vs "__len__" 930,vs "Lane.__len__" 931,vf 932,vi 288 0,vi 1 0,vi 0 0,vi 0 0,vi 3 0,vr 588,vb,vi 181 0,vr 589,vn,vn,vn,vr 590,vi 933 0,vi 288 0,vf 934]
def o382 (P:Params):Obj:=of "__len__" "Lane.__len__" (MA 34 22) (MB 34 22) (MS 34 22) vn (vs "lanescribe.lanes" 585) (vr 591)
def o383 (P:Params):Obj:=ot #[vs "self" 939]
def o384 (P:Params):Obj:={ cls:=vn,data:=Data.func { name:=u "__repr__",qualname:=u "Lane.__repr__",params:=MA 34 23,body:=FuncBody.stmts (MB 34 23),scope:=MS 34 23,globals:=0,closure:=[],defaults:=vn,kwdefaults:=vn } }
def o385 (P:Params):Obj:=oc #[vs "__repr__" 936,vs "Lane.__repr__" 937,vf 938,vi 291 0,vi 1 0,vi 0 0,vi 0 0,vi 3 0,vr 593,vb,vi 181 0,vr 594,vn,vr 595,vr 596,vr 597,vi 940 0,vi 291 0,vf 941]
def o386 (P:Params):Obj:=of "__repr__" "Lane.__repr__" (MA 34 23) (MB 34 23) (MS 34 23) vn (vs "lanescribe.lanes" 585) (vr 598)
def o387 (P:Params):Obj:=ot #[vs "given_in" 943,vs "held" 944,vs "last_time" 945,vs "lost" 946,vs "missed" 947,vs "most" 948,vs "over" 949,vs "pages" 950,vs "room" 951,vs "thrown_back" 952,vs "tickets" 953,vs "told" 954]
def o388 (P:Params):Obj:={ cls:=vt "dict",data:=Data.dict #[de P "__module__" 738 (vs "lanescribe.lanes" 585),de P "__firstlineno__" 742 (vi 155 741),de P "__init__" 755 (vr 442),de P "claim" 765 (vr 449),de P "make_room" 773 (vr 456),de P "eldest" 780 (vr 463),de P "lose_eldest" 787 (vr 470),de P "leave" 797 (vr 477),de P "waiting" 803 (vr 482),de P "waiting_with" 812 (vr 489),de P "last_waiting" 821 (vr 496),de P "fill" 830 (vr 503),de P "give" 839 (vr 510),de P "throw" 850 (vr 517),de P "standing" 861 (vr 524),de P "look" 868 (vr 531),de P "take" 876 (vr 538),de P "hold" 884 (vr 545),de P "pending" 891 (vr 552),de P "event" 900 (vr 559),de P "resize" 908 (vr 566),de P "counts" 915 (vr 573),de P "pages_now" 922 (vr 580),de P "twin" 929 (vr 587),de P "__len__" 935 (vr 592),de P "__repr__" 942 (vr 599),de P "__static_attributes__" 955 (vr 600),de P "__dict__" 957 (vr 603),de P "__weakref__" 959 (vr 604),de P "__doc__" 960 (vn)] 4 }
def o389 (P:Params):Obj:={ cls:=vt "type",data:=Data.cls { name:=u "Lane",bases:=[vt "object"],mro:=[vr 602,vt "object"],ns:=601,qualname:=u "Lane" },slots:=#[none,none,some (vs "Lane" 731),some (vs "Lane" 739),some (Value.builtin "object.__new__"),some (vb)] }
def o390 (P:Params):Obj:={ cls:=vt "getset_descriptor",data:=Data.fields #[vs "__dict__" 956,vr 602,Value.builtin "function.__dict__",Value.builtin "function.__dict__#set"] }
def o391 (P:Params):Obj:={ cls:=vt "getset_descriptor",data:=Data.fields #[vs "__weakref__" 958,vr 602,Value.builtin "ExceptionGroup.__weakref__",vn] }
def o392 (P:Params):Obj:={ cls:=vt "super",data:=Data.fields #[vr 602,vr 602,vr 602] }
def o393 (P:Params):Obj:={ cls:=vt "builtin_function_or_method",data:=Data.fields #[Value.builtin "object.__init_subclass__",vr 602] }
def h_c35 (P:Params):Heap:=⟨⟨boot_o_0 P::boot_o_1 P::boot_o_2 P::o286 P::boot_o_4 P::boot_o_5 P::boot_o_6 P::boot_o_7 P::boot_o_8 P::boot_o_9 P::boot_o_10 P::o0 P::o287 P::o2 P::o3 P::o0 P::o1 P::o6 P::o0 P::o7 P::o8 P::o9 P::o10 P::o11 P::o12 P::o0 P::o13 P::o14 P::o15 P::o16 P::o0 P::o1 P::o17 P::o0 P::o18 P::o19 P::o20 P::o21 P::o22 P::o98 P::o24 P::o25 P::o26 P::o27 P::o11 P::o28 P::o0 P::o29 P::o30 P::o31 P::o32 P::o0 P::o1 P::o33 P::o0 P::o34 P::o35 P::o36 P::o0 P::o37 P::o38 P::o39 P::o40 P::o27 P::o11 P::o41 P::o0 P::o42 P::o43 P::o44 P::o45 P::o0 P::o1 P::o46 P::o0 P::o47 P::o48 P::o49 P::o0 P::o50 P::o51 P::o52 P::o53 P::o27 P::o11 P::o57 P::o0 P::o58 P::o59 P::o60 P::o61 P::o0 P::o1 P::o62 P::o0 P::o63 P::o64 P::o65 P::o0 P::o66 P::o67 P::o68 P::o69 P::o27 P::o11 P::o70 P::o0 P::o71 P::o72 P::o73 P::o74 P::o0 P::o1 P::o75 P::o0 P::o76 P::o77 P::o78 P::o0 P::o79 P::o80 P::o81 P::o82 P::o27 P::o11 P::o83 P::o0 P::o84 P::o85 P::o86 P::o87 P::o0 P::o1 P::o88 P::o0 P::o89 P::o90 P::o91 P::o0 P::o92 P::o93 P::o94 P::o95 P::o27 P::o11 P::o99 P::o0 P::o100 P::o101 P::o102 P::o103 P::o0 P::o1 P::o104 P::o0 P::o105 P::o106 P::o107 P::o0 P::o108 P::o109 P::o110 P::o111 P::o27 P::o11 P::o112 P::o0 P::o113 P::o114 P::o115 P::o116 P::o0 P::o1 P::o117 P::o0 P::o118 P::o119 P::o120 P::o0 P::o121 P::o122 P::o123 P::o124 P::o125 P::o11 P::o126 P::o0 P::o127 P::o128 P::o129 P::o130 P::o0 P::o1 P::o131 P::o0 P::o132 P::o133 P::o134 P::o135 P::o136 P::o143 P::o138 P::o139 P::o140 P::o144 P::o11 P::o145 P::o0 P::o146 P::o147 P::o148 P::o149 P::o0 P::o1 P::o150 P::o0 P::o151 P::o152 P::o153 P::o0 P::o154 P::o155 P::o156 P::o157 P::o0 P::o1 P::o158 P::o0 P::o159 P::o160 P::o161 P::o0 P::o1 P::o162 P::o0 P::o163 P::o164 P::o165 P::o0 P::o1 P::o166 P::o0 P::o167 P::o168 P::o169 P::o0 P::o1 P::o170 P::o171 P::o172 P::o0 P::o11 P::o173 P::o0 P::o174 P::o175 P::o176 P::o0 P::o177 P::o0 P::o1 P::o178 P::o0 P::o179 P::o180 P::o181 P::o0 P::o1 P::o182 P::o183 P::o184 P::o0 P::o1 P::o185 P::o0 P::o186 P::o187 P::o188 P::o0 P::o1 P::o189 P::o0 P::o190 P::o191 P::o192 P::o0 P::o1 P::o193 P::o0 P::o194 P::o195 P::o196 P::o0 P::o1 P::o197 P::o0 P::o198 P::o199 P::o200 P::o0 P::o1 P::o201 P::o0 P::o202 P::o203 P::o204 P::o0 P::o1 P::o205 P::o0 P::o206 P::o207 P::o208 P::o0 P::o1 P::o209 P::o0 P::o210 P::o211 P::o212 P::o213 P::o214 P::o215 P::o216 P::o217 P::o218 P::o219 P::o0 P::o1 P::o222 P::o0 P::o223 P::o224 P::o225 P::o0 P::o1 P::o226 P::o0 P::o227 P::o228 P::o229 P::o0 P::o1 P::o230 P::o0 P::o231 P::o232 P::o233 P::o0 P::o1 P::o234 P::o0 P::o235 P::o236 P::o237 P::o0 P::o11 P::o238 P::o0 P::o239 P::o240 P::o241 P::o0 P::o1 P::o242 P::o0 P::o243 P::o244 P::o245 P::o0 P::o1 P::o246 P::o0 P::o247 P::o248 P::o249 P::o0 P::o1 P::o250 P::o0 P::o251 P::o252 P::o253 P::o254 P::o255 P::o256 P::o257 P::o258 P::o259 P::o260 P::o0 P::o11 P::o261 P::o0 P::o262 P::o263 P::o264 P::o0 P::o1 P::o265 P::o0 P::o266 P::o267 P::o268 P::o0 P::o1 P::o269 P::o270 P::o271 P::o0 P::o1 P::o272 P::o273 P::o274 P::o0 P::o1 P::o275 P::o0 P::o276 P::o277 P::o278 P::o279 P::o280 P::o281 P::o282 P::o283 P::o284 P::o285 P::o0 P::o11 P::o288 P::o0 P::o289 P::o290 P::o291 P::o292 P::o0 P::o1 P::o293 P::o0 P::o294 P::o295 P::o296 P::o0 P::o1 P::o297 P::o0 P::o298 P::o299 P::o300 P::o0 P::o1 P::o301 P::o0 P::o302 P::o303 P::o304 P::o0 P::o1 P::o305 P::o0 P::o306 P::o307 P::o308 P::o0 P::o1 P::o309 P::o0 P::o310 P::o311 P::o312 P::o0 P::o1 P::o313 P::o0 P::o314 P::o315 P::o316 P::o0 P::o1 P::o317 P::o318 P::o319 P::o0 P::o1 P::o320 P::o0 P::o321 P::o322 P::o323 P::o0 P::o1 P::o324 P::o0 P::o325 P::o326 P::o327 P::o0 P::o1 P::o328 P::o0 P::o329 P::o330 P::o331 P::o0 P::o1 P::o332 P::o0 P::o333 P::o334 P::o335 P::o0 P::o1 P::o336 P::o0 P::o337 P::o338 P::o339 P::o0 P::o1 P::o340 P::o0 P::o341 P::o342 P::o343 P::o0 P::o1 P::o344 P::o0 P::o345 P::o346 P::o347 P::o0 P::o1 P::o348 P::o0 P::o349 P::o350 P::o351 P::o0 P::o1 P::o352 P::o0 P::o353 P::o354 P::o355 P::o0 P::o1 P::o356 P::o0 P::o357 P::o358 P::o359 P::o0 P::o1 P::o360 P::o0 P::o361 P::o362 P::o363 P::o0 P::o1 P::o364 P::o0 P::o365 P::o366 P::o367 P::o0 P::o1 P::o368 P::o0 P::o369 P::o370 P::o371 P::o0 P::o1 P::o372 P::o0 P::o373 P::o374 P::o375 P::o0 P::o1 P::o376 P::o0 P::o377 P::o378 P::o379 P::o0 P::o1 P::o380 P::o381 P::o382 P::o0 P::o1 P::o383 P::o0 P::o384 P::o385 P::o386 P::o387 P::o388 P::o389 P::o390 P::o391 P::o392 P::o393 P::[]⟩,{ }⟩
abbrev S_c35 (w:World) (os:OsState):Shared:=⟨h_c35 w.params,Array.mk [],{ },963,os⟩
abbrev p_c35:Pos:={ line:=155,col:=0,endLine:=292,endCol:=66 }
abbrev l_35:List Stmt:=((behindTheImports pp).drop 34).take 1
theorem r_35 (w:World) (os:OsState):segRun treeTable pp w 11 an 1 992 (S_c34 w os) (piecesOf l_35 env cd p_c34 [topFrame fp])=some (.next,S_c35 w os,cd,p_c35):=by kernel_rfl
def o394 (P:Params):Obj:={ cls:=vt "dict",data:=Data.dict #[de P "__name__" 165 (vs "law_lanescribe_k17_whole_readers_stop_no_wri" 1023),de P "__doc__" 166 (vn),de P "__package__" 167 (vn),de P "__loader__" 168 (Value.builtin "__main__.__loader__#opaque"),de P "__spec__" 169 (vn),de P "__annotations__" 170 (vr 6),de P "__builtins__" 171 (vr 4),de P "__file__" 173 (vf 172),de P "__cached__" 174 (vn),de P "_wall" 193 (vr 21),de P "ScribeError" 225 (vr 39),de P "BadName" 250 (vr 60),de P "BadBounds" 275 (vr 80),de P "BadSize" 300 (vr 100),de P "BadTime" 325 (vr 120),de P "Taken" 350 (vr 140),de P "Full" 375 (vr 160),de P "NotTop" 400 (vr 180),de P "Missing" 430 (vr 200),de P "NoTicket" 455 (vr 221),de P "LIMIT" 459 (vi 999999 458),de P "MOST_LETTERS" 461 (vi 8 460),de P "MOST_FIELDS" 463 (vi 4 462),de P "is_name" 470 (vr 230),de P "need_name" 477 (vr 237),de P "need_fields" 488 (vr 244),de P "bounds_text" 494 (vr 249),de P "Kind" 584 (vr 322),de P "PAGES" 588 (vi 4 587),de P "ROOM" 590 (vi 8 589),de P "FEWEST_PAGES" 592 (vi 2 591),de P "MOST_PAGES" 594 (vi 16 593),de P "LEAST_ROOM" 596 (vi 5 595),de P "MOST_ROOM" 598 (vi 12 597),de P "need_pages" 605 (vr 333),de P "need_room" 612 (vr 340),de P "told_from" 622 (vr 347),de P "place_behind" 631 (vr 354),de P "Claim" 681 (vr 385),de P "Page" 730 (vr 423),de P "Lane" 962 (vr 602),de P "MOST_TOLD" 966 (vi 400 965),de P "Looker" 1022 (vr 646),de P "_law_begin" 1033 (vr 657)] 44 }
def o395 (P:Params):Obj:={ cls:=vn,data:=Data.fields #[vi 1 0,vi 0 0,vr 20,vi 5 0,vi 0 0,vr 27,vi 10 0,vi 0 0,vr 48,vi 14 0,vi 0 0,vr 68,vi 18 0,vi 0 0,vr 88,vi 22 0,vi 0 0,vr 108,vi 26 0,vi 0 0,vr 128,vi 30 0,vi 0 0,vr 148,vi 34 0,vi 0 0,vr 168,vi 38 0,vi 0 0,vr 188,vi 43 0,vi 0 0,vr 209,vi 51 0,vi 0 0,vr 229,vi 53 0,vi 0 0,vr 236,vi 56 0,vi 0 0,vr 243,vi 65 0,vi 0 0,vr 248,vi 67 0,vi 0 0,vr 255,vi 107 0,vi 0 0,vr 332,vi 110 0,vi 0 0,vr 339,vi 113 0,vi 0 0,vr 346,vi 122 0,vi 0 0,vr 353,vi 126 0,vi 0 0,vr 360,vi 140 0,vi 0 0,vr 395,vi 155 0,vi 0 0,vr 433,vi 295 0,vi 0 0,vr 612,vi 316 0,vi 0 0,vr 656] }
def o396 (P:Params):Obj:={ cls:=vt "dict",data:=Data.dict #[de P "__module__" 974 (vs "lanescribe.lookers" 963),de P "__qualname__" 976 (vs "Looker" 975),de P "__firstlineno__" 978 (vi 295 977),de P "__init__" 986 (vr 620),de P "more" 996 (vr 628),de P "place" 1003 (vr 635),de P "back" 1012 (vr 643),de P "__static_attributes__" 1015 (vr 644)] 8 }
def o397 (P:Params):Obj:={ cls:=vn,data:=Data.fields #[vi 297 0,vi 4 0,vr 619,vi 301 0,vi 4 0,vr 627,vi 308 0,vi 4 0,vr 634,vi 311 0,vi 4 0,vr 642] }
def o398 (P:Params):Obj:=oc #[vs "Looker" 969,vs "Looker" 970,vf 971,vi 295 0,vi 0 0,vi 0 0,vi 0 0,vi 0 0,vr 610,Value.bool false,vi 181 0,vr 611,vn,vn,vn,vn,vi 972 0,vi 295 0,vf 973]
def o399 (P:Params):Obj:={ cls:=vt "frame",slots:=#[some (vr 612),some (vr 3),some (vr 609),none,some (vs "lanescribe.lookers" 963),none,some (vr 0)] }
def o400 (P:Params):Obj:=ot #[vs "self" 982,vs "lane" 983]
def o401 (P:Params):Obj:={ cls:=vn,data:=Data.func { name:=u "__init__",qualname:=u "Looker.__init__",params:=MA 37 0,body:=FuncBody.stmts (MB 37 0),scope:=MS 37 0,globals:=0,closure:=[],defaults:=vn,kwdefaults:=vn } }
def o402 (P:Params):Obj:=oc #[vs "__init__" 979,vs "Looker.__init__" 980,vf 981,vi 297 0,vi 2 0,vi 0 0,vi 0 0,vi 3 0,vr 614,vb,vi 181 0,vr 615,vn,vr 616,vr 617,vr 618,vi 984 0,vi 297 0,vf 985]
def o403 (P:Params):Obj:=of "__init__" "Looker.__init__" (MA 37 0) (MB 37 0) (MS 37 0) vn (vs "lanescribe.lookers" 963) (vr 619)
def o404 (P:Params):Obj:={ cls:=vt "dict",data:=Data.dict #[de P "most" 987 (vi 400 965)] 1 }
def o405 (P:Params):Obj:=ot #[vs "self" 991,vs "most" 992,vs "told" 993]
def o406 (P:Params):Obj:={ cls:=vn,data:=Data.func { name:=u "more",qualname:=u "Looker.more",params:=MA 37 1,body:=FuncBody.stmts (MB 37 1),scope:=MS 37 1,globals:=0,closure:=[],defaults:=vn,kwdefaults:=vn } }
def o407 (P:Params):Obj:=oc #[vs "more" 988,vs "Looker.more" 989,vf 990,vi 301 0,vi 1 0,vi 0 0,vi 1 0,vi 3 0,vr 622,vb,vi 181 0,vr 623,vn,vr 624,vr 625,vr 626,vi 994 0,vi 301 0,vf 995]
def o408 (P:Params):Obj:={ cls:=vt "function",data:=Data.func { name:=u "more",qualname:=u "Looker.more",params:=MA 37 1,body:=FuncBody.stmts (MB 37 1),scope:=MS 37 1,globals:=3,closure:=[],defaults:=vn,kwdefaults:=vr 621,pyModule:=vs "lanescribe.lookers" 963,code:=vr 627 } }
def o409 (P:Params):Obj:=ot #[vs "self" 1000]
def o410 (P:Params):Obj:={ cls:=vn,data:=Data.func { name:=u "place",qualname:=u "Looker.place",params:=MA 37 2,body:=FuncBody.stmts (MB 37 2),scope:=MS 37 2,globals:=0,closure:=[],defaults:=vn,kwdefaults:=vn } }
def o411 (P:Params):Obj:=oc #[vs "place" 997,vs "Looker.place" 998,vf 999,vi 308 0,vi 1 0,vi 0 0,vi 0 0,vi 3 0,vr 629,vb,vi 181 0,vr 630,vn,vr 631,vr 632,vr 633,vi 1001 0,vi 308 0,vf 1002]
def o412 (P:Params):Obj:=of "place" "Looker.place" (MA 37 2) (MB 37 2) (MS 37 2) vn (vs "lanescribe.lookers" 963) (vr 634)
def o413 (P:Params):Obj:=ot #[vi 0 1004]
def o414 (P:Params):Obj:=ot #[vs "self" 1008,vs "place" 1009]
def o415 (P:Params):Obj:={ cls:=vn,data:=Data.func { name:=u "back",qualname:=u "Looker.back",params:=MA 37 3,body:=FuncBody.stmts (MB 37 3),scope:=MS 37 3,globals:=0,closure:=[],defaults:=vn,kwdefaults:=vn } }
def o416 (P:Params):Obj:=oc #[vs "back" 1005,vs "Looker.back" 1006,vf 1007,vi 311 0,vi 2 0,vi 0 0,vi 0 0,vi 3 0,vr 637,vb,vi 181 0,vr 638,vn,vr 639,vr 640,vr 641,vi 1010 0,vi 311 0,vf 1011]
def o417 (P:Params):Obj:=of "back" "Looker.back" (MA 37 3) (MB 37 3) (MS 37 3) (vr 636) (vs "lanescribe.lookers" 963) (vr 642)
def o418 (P:Params):Obj:=ot #[vs "reached" 1013,vs "watched" 1014]
def o419 (P:Params):Obj:={ cls:=vt "dict",data:=Data.dict #[de P "__module__" 974 (vs "lanescribe.lookers" 963),de P "__firstlineno__" 978 (vi 295 977),de P "__init__" 986 (vr 620),de P "more" 996 (vr 628),de P "place" 1003 (vr 635),de P "back" 1012 (vr 643),de P "__static_attributes__" 1015 (vr 644),de P "__dict__" 1017 (vr 647),de P "__weakref__" 1019 (vr 648),de P "__doc__" 1020 (vn)] 4 }
def o420 (P:Params):Obj:={ cls:=vt "type",data:=Data.cls { name:=u "Looker",bases:=[vt "object"],mro:=[vr 646,vt "object"],ns:=645,qualname:=u "Looker" },slots:=#[none,none,some (vs "Looker" 967),some (vs "Looker" 975),some (Value.builtin "object.__new__"),some (vb)] }
def o421 (P:Params):Obj:={ cls:=vt "getset_descriptor",data:=Data.fields #[vs "__dict__" 1016,vr 646,Value.builtin "function.__dict__",Value.builtin "function.__dict__#set"] }
def o422 (P:Params):Obj:={ cls:=vt "getset_descriptor",data:=Data.fields #[vs "__weakref__" 1018,vr 646,Value.builtin "ExceptionGroup.__weakref__",vn] }
def o423 (P:Params):Obj:={ cls:=vt "super",data:=Data.fields #[vr 646,vr 646,vr 646] }
def o424 (P:Params):Obj:={ cls:=vt "builtin_function_or_method",data:=Data.fields #[Value.builtin "object.__init_subclass__",vr 646] }
def o425 (P:Params):Obj:=ot #[vs "_law_script" 1028,vs "_law_seed" 1029,vs "_law_cell" 1030]
def o426 (P:Params):Obj:={ cls:=vn,data:=Data.func { name:=u "_law_begin",qualname:=u "_law_begin",params:=TA 39,body:=FuncBody.stmts (TB 39),scope:=TS 39,globals:=0,closure:=[],defaults:=vn,kwdefaults:=vn } }
def o427 (P:Params):Obj:=oc #[vs "_law_begin" 1025,vs "_law_begin" 1026,vf 1027,vi 316 0,vi 1 0,vi 0 0,vi 0 0,vi 3 0,vr 651,vb,vi 181 0,vr 652,vn,vr 653,vr 654,vr 655,vi 1031 0,vi 316 0,vf 1032]
def o428 (P:Params):Obj:=of "_law_begin" "_law_begin" (TA 39) (TB 39) (TS 39) vn (vs "law_lanescribe_k17_whole_readers_stop_no_wri" 1023) (vr 656)
def h_c40 (P:Params):Heap:=⟨⟨boot_o_0 P::boot_o_1 P::boot_o_2 P::o394 P::boot_o_4 P::boot_o_5 P::boot_o_6 P::boot_o_7 P::boot_o_8 P::boot_o_9 P::boot_o_10 P::o0 P::o395 P::o2 P::o3 P::o0 P::o1 P::o6 P::o0 P::o7 P::o8 P::o9 P::o10 P::o11 P::o12 P::o0 P::o13 P::o14 P::o15 P::o16 P::o0 P::o1 P::o17 P::o0 P::o18 P::o19 P::o20 P::o21 P::o22 P::o98 P::o24 P::o25 P::o26 P::o27 P::o11 P::o28 P::o0 P::o29 P::o30 P::o31 P::o32 P::o0 P::o1 P::o33 P::o0 P::o34 P::o35 P::o36 P::o0 P::o37 P::o38 P::o39 P::o40 P::o27 P::o11 P::o41 P::o0 P::o42 P::o43 P::o44 P::o45 P::o0 P::o1 P::o46 P::o0 P::o47 P::o48 P::o49 P::o0 P::o50 P::o51 P::o52 P::o53 P::o27 P::o11 P::o57 P::o0 P::o58 P::o59 P::o60 P::o61 P::o0 P::o1 P::o62 P::o0 P::o63 P::o64 P::o65 P::o0 P::o66 P::o67 P::o68 P::o69 P::o27 P::o11 P::o70 P::o0 P::o71 P::o72 P::o73 P::o74 P::o0 P::o1 P::o75 P::o0 P::o76 P::o77 P::o78 P::o0 P::o79 P::o80 P::o81 P::o82 P::o27 P::o11 P::o83 P::o0 P::o84 P::o85 P::o86 P::o87 P::o0 P::o1 P::o88 P::o0 P::o89 P::o90 P::o91 P::o0 P::o92 P::o93 P::o94 P::o95 P::o27 P::o11 P::o99 P::o0 P::o100 P::o101 P::o102 P::o103 P::o0 P::o1 P::o104 P::o0 P::o105 P::o106 P::o107 P::o0 P::o108 P::o109 P::o110 P::o111 P::o27 P::o11 P::o112 P::o0 P::o113 P::o114 P::o115 P::o116 P::o0 P::o1 P::o117 P::o0 P::o118 P::o119 P::o120 P::o0 P::o121 P::o122 P::o123 P::o124 P::o125 P::o11 P::o126 P::o0 P::o127 P::o128 P::o129 P::o130 P::o0 P::o1 P::o131 P::o0 P::o132 P::o133 P::o134 P::o135 P::o136 P::o143 P::o138 P::o139 P::o140 P::o144 P::o11 P::o145 P::o0 P::o146 P::o147 P::o148 P::o149 P::o0 P::o1 P::o150 P::o0 P::o151 P::o152 P::o153 P::o0 P::o154 P::o155 P::o156 P::o157 P::o0 P::o1 P::o158 P::o0 P::o159 P::o160 P::o161 P::o0 P::o1 P::o162 P::o0 P::o163 P::o164 P::o165 P::o0 P::o1 P::o166 P::o0 P::o167 P::o168 P::o169 P::o0 P::o1 P::o170 P::o171 P::o172 P::o0 P::o11 P::o173 P::o0 P::o174 P::o175 P::o176 P::o0 P::o177 P::o0 P::o1 P::o178 P::o0 P::o179 P::o180 P::o181 P::o0 P::o1 P::o182 P::o183 P::o184 P::o0 P::o1 P::o185 P::o0 P::o186 P::o187 P::o188 P::o0 P::o1 P::o189 P::o0 P::o190 P::o191 P::o192 P::o0 P::o1 P::o193 P::o0 P::o194 P::o195 P::o196 P::o0 P::o1 P::o197 P::o0 P::o198 P::o199 P::o200 P::o0 P::o1 P::o201 P::o0 P::o202 P::o203 P::o204 P::o0 P::o1 P::o205 P::o0 P::o206 P::o207 P::o208 P::o0 P::o1 P::o209 P::o0 P::o210 P::o211 P::o212 P::o213 P::o214 P::o215 P::o216 P::o217 P::o218 P::o219 P::o0 P::o1 P::o222 P::o0 P::o223 P::o224 P::o225 P::o0 P::o1 P::o226 P::o0 P::o227 P::o228 P::o229 P::o0 P::o1 P::o230 P::o0 P::o231 P::o232 P::o233 P::o0 P::o1 P::o234 P::o0 P::o235 P::o236 P::o237 P::o0 P::o11 P::o238 P::o0 P::o239 P::o240 P::o241 P::o0 P::o1 P::o242 P::o0 P::o243 P::o244 P::o245 P::o0 P::o1 P::o246 P::o0 P::o247 P::o248 P::o249 P::o0 P::o1 P::o250 P::o0 P::o251 P::o252 P::o253 P::o254 P::o255 P::o256 P::o257 P::o258 P::o259 P::o260 P::o0 P::o11 P::o261 P::o0 P::o262 P::o263 P::o264 P::o0 P::o1 P::o265 P::o0 P::o266 P::o267 P::o268 P::o0 P::o1 P::o269 P::o270 P::o271 P::o0 P::o1 P::o272 P::o273 P::o274 P::o0 P::o1 P::o275 P::o0 P::o276 P::o277 P::o278 P::o279 P::o280 P::o281 P::o282 P::o283 P::o284 P::o285 P::o0 P::o11 P::o288 P::o0 P::o289 P::o290 P::o291 P::o292 P::o0 P::o1 P::o293 P::o0 P::o294 P::o295 P::o296 P::o0 P::o1 P::o297 P::o0 P::o298 P::o299 P::o300 P::o0 P::o1 P::o301 P::o0 P::o302 P::o303 P::o304 P::o0 P::o1 P::o305 P::o0 P::o306 P::o307 P::o308 P::o0 P::o1 P::o309 P::o0 P::o310 P::o311 P::o312 P::o0 P::o1 P::o313 P::o0 P::o314 P::o315 P::o316 P::o0 P::o1 P::o317 P::o318 P::o319 P::o0 P::o1 P::o320 P::o0 P::o321 P::o322 P::o323 P::o0 P::o1 P::o324 P::o0 P::o325 P::o326 P::o327 P::o0 P::o1 P::o328 P::o0 P::o329 P::o330 P::o331 P::o0 P::o1 P::o332 P::o0 P::o333 P::o334 P::o335 P::o0 P::o1 P::o336 P::o0 P::o337 P::o338 P::o339 P::o0 P::o1 P::o340 P::o0 P::o341 P::o342 P::o343 P::o0 P::o1 P::o344 P::o0 P::o345 P::o346 P::o347 P::o0 P::o1 P::o348 P::o0 P::o349 P::o350 P::o351 P::o0 P::o1 P::o352 P::o0 P::o353 P::o354 P::o355 P::o0 P::o1 P::o356 P::o0 P::o357 P::o358 P::o359 P::o0 P::o1 P::o360 P::o0 P::o361 P::o362 P::o363 P::o0 P::o1 P::o364 P::o0 P::o365 P::o366 P::o367 P::o0 P::o1 P::o368 P::o0 P::o369 P::o370 P::o371 P::o0 P::o1 P::o372 P::o0 P::o373 P::o374 P::o375 P::o0 P::o1 P::o376 P::o0 P::o377 P::o378 P::o379 P::o0 P::o1 P::o380 P::o381 P::o382 P::o0 P::o1 P::o383 P::o0 P::o384 P::o385 P::o386 P::o387 P::o388 P::o389 P::o390 P::o391 P::o392 P::o393 P::o0 P::o11 P::o396 P::o0 P::o397 P::o398 P::o399 P::o0 P::o1 P::o400 P::o0 P::o401 P::o402 P::o403 P::o404 P::o0 P::o1 P::o405 P::o0 P::o406 P::o407 P::o408 P::o0 P::o1 P::o409 P::o0 P::o410 P::o411 P::o412 P::o413 P::o0 P::o1 P::o414 P::o0 P::o415 P::o416 P::o417 P::o418 P::o419 P::o420 P::o421 P::o422 P::o423 P::o424 P::o0 P::o1 P::o425 P::o0 P::o426 P::o427 P::o428 P::[]⟩,{ }⟩
abbrev S_c40 (w:World) (os:OsState):Shared:=⟨h_c40 w.params,Array.mk [],{ },1034,os⟩
abbrev p_c40:Pos:={ line:=316,col:=0,endLine:=320,endCol:=83 }
abbrev l_40:List Stmt:=((behindTheImports pp).drop 35).take 5
theorem r_40 (w:World) (os:OsState):segRun treeTable pp w 11 an 1 389 (S_c35 w os) (piecesOf l_40 env cd p_c35 [topFrame fp])=some (.next,S_c40 w os,cd,p_c40):=by kernel_rfl
abbrev l_z:List Stmt:=(behindTheImports pp).drop 40
theorem all_l:behindTheImports pp=(l_5++(l_8++(l_11++(l_21++(l_34++(l_35++(l_40++l_z))))))):=by kernel_rfl
theorem last (w:World) (os:OsState):((topRun treeTable pp w 11 an 770 (S_c40 w os) (restOf l_z env cd p_c40 [topFrame fp])).bind fun s₁=>match staticsOk (importedModules pp.main.body) (S_0 w os).heap s₁.heap && namesBound pp s₁.heap && gensDone s₁ && laidKept (S_0 w os).heap s₁.heap with
 |true=>some s₁
 |false=>none).map (fun s=>(openSeen vw ls (importedModules pp.main.body) Xt true s,hk.obs s))=some (openGood vw ls,hk.val w):=by kernel_rfl
theorem chain (w:World) (os:OsState) (r:Shared) (h:topRun treeTable pp w 11 an 770 (S_c40 w os) (restOf l_z env cd p_c40 [topFrame fp])=some r):topRun treeTable pp w 11 an 6038 (S_0 w os) (topStub pp)=some r:=by
 have k:topRun treeTable pp w 11 an 6025 (S_b w os) (restOf (l_5++(l_8++(l_11++(l_21++(l_34++(l_35++(l_40++l_z))))))) env cd p_b [topFrame fp])=some r:=piece_app (r_5 w os) (piece_app (r_8 w os) (piece_app (r_11 w os) (piece_app (r_21 w os) (piece_app (r_34 w os) (piece_app (r_35 w os) (piece_app (r_40 w os) (h)))))))
 rw [← all_l] at k
 exact go_top (n:=12) (N:=6026) (r_a w os) (piece_block (n:=1) (N:=6025) (r_b w os) k)
theorem run (w:World) (os:OsState):(topFrom treeTable pp w 6038 (S_0 w os)).map (fun s=>(openSeen vw ls (importedModules pp.main.body) Xt true s,hk.obs s))=some (openGood vw ls,hk.val w):=by_parts (s0:=S_0 w os) (by kernel_rfl) (by kernel_rfl) (by kernel_rfl) (chain w os) (last w os)
theorem left:LeftO (OpenRow.toRowW PySem.Challenge.rw_lanescribe_k17_whole_readers_stop_no_wri.row).prog vw ls Xt hk.obs hk.val 6038:=left_boot openP (by decide) (fun s=>by kernel_rfl) run
theorem head (hw:(OpenRow.toRowW PySem.Challenge.rw_lanescribe_k17_whole_readers_stop_no_wri.row).promised) {d:DefRec} {kwd:List (Str×Expr)} (hdef:defOf vw PySem.Challenge.rw_lanescribe_k17_whole_readers_stop_no_wri.row.name=some (d,kwd)) (hp:PySem.Challenge.rw_lanescribe_k17_whole_readers_stop_no_wri.row.prog.theDef PySem.Challenge.rw_lanescribe_k17_whole_readers_stop_no_wri.row.name=some (d.params,d.body,d.scope)) (hk1:kwWritten? d.params.kwonlyargs d.params.kw_defaults=some kwd)
 (hc:WalkO vw ls (XL vw lv) (kHook KK asK eK).says (OpenRow.toRowW PySem.Challenge.rw_lanescribe_k17_whole_readers_stop_no_wri.row) d kwd fun f vs=>PySem.call f vs):PySem.Challenge.rw_lanescribe_k17_whole_readers_stop_no_wri.Holds:=
 holds_law said fun said'=>holds_open (q:=vw) (loose:=ls) (Xt:=Xt) (XP:=XL vw lv) (Yf:=hk.obs) (Ya:=hk.val) (YP:=hk.says) (N:=6038) left hk.of hk.keeps (fun s e=>xl_of s (Bool.and_eq_true_iff.mp e).1) XL.keeps hdef hp hk1 (fun s e=>recFacts_of (Bool.and_eq_true_iff.mp e).2) (by rfl) said' (by decide +kernel) ⟨rfl,rfl,rfl,rfl,rfl,by decide +kernel⟩ hw hc
end
end Kd
namespace L2
open PySem PySem.Spec PyProof.Rows
abbrev Key:=Sum Int Str
def keyIs:Key->Value->Bool
 |.inl k,v=>Value.isInt k v
 |.inr x,v=>Value.isStrOf x v
def keyH (w:World):Key->Int
 |.inl k=>hashInt k
 |.inr x=>hashStr w x
theorem keyIs_shape:∀ {k:Key} {v:Value},keyIs k v=true->(∃ i t,k=Sum.inl i/\v=Value.int i t)∨(∃ x t,k=Sum.inr x/\v=Value.str x t)
 | .inl i,v,h=>by
   obtain ⟨t,e⟩:=Value.isInt_shape (k:=i) (v:=v) h
   exact .inl ⟨i,t,rfl,e⟩
 | .inr x,v,h=>by
   obtain ⟨t,e⟩:=Value.isStrOf_shape (x:=x) (v:=v) h
   exact .inr ⟨x,t,rfl,e⟩
theorem keyIs_int (i:Int) (t:Tok):keyIs (.inl i) (.int i t)=true:=by simp [keyIs,Value.isInt]
theorem keyIs_str (x:Str) (t:Tok):keyIs (.inr x) (.str x t)=true:=by simp [keyIs,Value.isStrOf]
theorem key_ll (a b:Int):decide ((Sum.inl a:Key)=Sum.inl b)=(a == b):=by
 by_cases e:a=b
 ·subst e;simp
 ·have h:¬ (Sum.inl a:Key)=Sum.inl b:=fun q=>e (Sum.inl.inj q)
  rw [decide_eq_false h]
  exact (beq_eq_false_iff_ne.mpr e).symm
theorem key_rr (a b:Str):decide ((Sum.inr a:Key)=Sum.inr b)=decide (a=b):=by
 by_cases e:a=b
 ·subst e;simp
 ·have h:¬ (Sum.inr a:Key)=Sum.inr b:=fun q=>e (Sum.inr.inj q)
  rw [decide_eq_false h,decide_eq_false e]
theorem key_lr (a:Int) (b:Str):decide ((Sum.inl a:Key)=Sum.inr b)=false:=decide_eq_false (fun q=>nomatch q)
theorem key_rl (a:Str) (b:Int):decide ((Sum.inr a:Key)=Sum.inl b)=false:=decide_eq_false (fun q=>nomatch q)
def mixKind (prog:Program) (w:World):PySem.KeyKind prog w Key where
 is:=keyIs
 hash:=keyH w
 inj:=fun v a b ha hb=>by
  rcases keyIs_shape ha with ⟨i,t,rfl,rfl⟩|⟨x,t,rfl,rfl⟩
  ·rcases keyIs_shape hb with ⟨j,u,rfl,e⟩|⟨y,u,rfl,e⟩
   ·injection e with e1 _;rw [e1]
   ·exact nomatch e
  ·rcases keyIs_shape hb with ⟨j,u,rfl,e⟩|⟨y,u,rfl,e⟩
   ·exact nomatch e
   ·injection e with e1 _;rw [e1]
 byValue:=fun k v h=>by
  rcases keyIs_shape h with ⟨i,t,rfl,rfl⟩|⟨x,t,rfl,rfl⟩ <;> rfl
 pyHash:=fun hv h=>by
  rcases keyIs_shape hv with ⟨i,t,rfl,rfl⟩|⟨x,t,rfl,rfl⟩
  ·exact wpAny_pyHash_int h
  ·exact wpAny_pyHash_str h
 eqBool:=fun hu hv h=>by
  rcases keyIs_shape hu with ⟨i,t,rfl,rfl⟩|⟨x,t,rfl,rfl⟩
  ·rcases keyIs_shape hv with ⟨j,u,rfl,rfl⟩|⟨y,u,rfl,rfl⟩
   ·rw [key_ll] at h;exact wpAny_eqBool_int h
   ·rw [key_lr] at h;exact SeqAt.EqAt.int_str i t y u _ _ _ _ h
  ·rcases keyIs_shape hv with ⟨j,u,rfl,rfl⟩|⟨y,u,rfl,rfl⟩
   ·rw [key_rl] at h;exact SeqAt.EqAt.str_int x t j u _ _ _ _ h
   ·rw [key_rr] at h;exact wpAny_eqBool_str h
 «strs»:=fun k x t v h=>by
  rcases keyIs_shape h with ⟨i,u,rfl,e⟩|⟨y,u,rfl,e⟩
  ·exact nomatch e
  ·injection e with e1 _
   subst e1
   cases v <;> rfl
theorem mixKind_int (prog:Program) (w:World) (i:Int) (t:Tok):(mixKind prog w).is (.inl i) (.int i t)=true:=keyIs_int i t
theorem mixKind_str (prog:Program) (w:World) (x:Str) (t:Tok):(mixKind prog w).is (.inr x) (.str x t)=true:=keyIs_str x t
inductive V where
 |non|bl (b:Bool)|int (i:Int)|str (x:Str)|byt (b:Array UInt8)|flt (b:UInt64)|ref (a:Addr)|ty (n:String)
 deriving DecidableEq
def RelV:V->Value->Prop
 |.non,u=>u=Value.none
 |.bl b,u=>u=Value.bool b
 |.int i,u=>∃ t,u=Value.int i t
 |.str x,u=>∃ t,u=Value.str x t
 |.byt b,u=>∃ t,u=Value.bytes b t
 |.flt b,u=>∃ t,u=Value.float b t
 |.ref a,u=>u=Value.ref a
 |.ty n,u=>u=Value.type n
abbrev Vals:List V->List Value->Prop:=Paired RelV
theorem Vals.length {xs:List V} {us:List Value} (r:Vals xs us):xs.length=us.length:=Paired.length r
theorem Vals.get:∀ {xs:List V} {us:List Value} {i:Nat} {x:V},Vals xs us->xs[i]?=some x->∃ u,us[i]?=some u/\RelV x u
 |_,_,_,_,.nil,e=>by simp at e
 |_,_,0,_,.cons r _,e=>by simp at e;subst e;exact ⟨_,rfl,r⟩
 | _,_,i+1,x,.cons _ t,e=>by
   obtain ⟨u,h1,h2⟩:=Vals.get (i:=i) (x:=x) t (by simpa using e)
   exact ⟨u,by simpa using h1,h2⟩
theorem Vals.set {x:V} {u:Value} (r:RelV x u):∀ {xs:List V} {us:List Value} (i:Nat),Vals xs us->Vals (xs.set i x) (us.set i u)
 |_,_,_,.nil=>.nil
 |_,_,0,.cons _ t=>.cons r t
 |_,_,i+1,.cons q t=>.cons q (Vals.set r i t)
theorem Vals.append:∀ {xs ys:List V} {us ws:List Value},Vals xs us->Vals ys ws->Vals (xs++ys) (us++ws)
 |_,_,_,_,.nil,s=>s
 |_,_,_,_,.cons r t,s=>.cons r (Vals.append t s)
theorem Vals.take:∀ {xs:List V} {us:List Value} (n:Nat),Vals xs us->Vals (xs.take n) (us.take n)
 |_,_,0,_=>.nil
 |_,_,_+1,.nil=>.nil
 |_,_,n+1,.cons r t=>.cons r (Vals.take n t)
theorem Vals.drop:∀ {xs:List V} {us:List Value} (n:Nat),Vals xs us->Vals (xs.drop n) (us.drop n)
 |_,_,0,r=>r
 |_,_,_+1,.nil=>.nil
 |_,_,n+1,.cons _ t=>Vals.drop n t
def RelO:Option V->Option Value->Prop
 |some v,some u=>RelV v u
 |none,none=>True
 |_,_=>False
def KV {κ:Type}:List (κ×V)->List (κ×Value)->Prop:=Paired fun (p:κ×V) (q:κ×Value)=>p.1=q.1/\RelV p.2 q.2
def kV:Key->V
 |.inl i=>.int i
 |.inr x=>.str x
inductive HO where
 |lst (xs:List V)
 |tup (xs:List V)
 |dK (kvs:List (Key×V))|dT (kvs:List (List Key×V))
 |set (S:Int->Bool) (n:Nat)
 |ins (C dx:Addr) (fs:List (Str×V))
 |own (x:Addr)
 |xd (fs:List (Str×V))
 |met (f x:Addr)
 |rng (lo hi:Int)
 |frz (o:Obj) (u:HO)
 |tbl (ps:Array Value)
 |ext (φ:Heap->Prop)
abbrev Hp:=Addr->Option HO
def upd (H:Hp) (a:Addr) (o:HO):Hp:=fun b=>if b=a then some o else H b
theorem upd_same {H:Hp} {a:Addr} {o:HO}:upd H a o a=some o:=by unfold upd;rw [if_pos rfl]
theorem upd_ne {H:Hp} {a b:Addr} {o:HO} (h:b≠a):upd H a o b=H b:=by unfold upd;rw [if_neg h]
theorem ne_of {H:Hp} {a b:Addr} {o u:HO} (h:H a=some o) (h':H b=some u) (d:o≠u):a≠b:=by
 intro e;subst e;rw [h] at h';exact d (Option.some.inj h')
theorem ne_of_none {H:Hp} {a b:Addr} {o:HO} (h:H a=some o) (h':H b=none):a≠b:=by
 intro e;subst e;rw [h] at h';cases h'
section
variable (P:Program) (w:World)
def ObjOk (H:Hp) (h:Heap) (a:Addr):HO->Prop
 |.lst xs=>xs.length≤sizeLine/\∃ (its:List Value) (n:Nat),Vals xs its/\h.get? a=some { cls:=.type "list",data:=.seq its.toArray n }
 |.tup xs=>xs.length≤sizeLine/\∃ its:List Value,Vals xs its/\IsTup h a its.toArray
 |.dK kvs=>kvs.length≤sizeLine/\(a == sysModules)=false/\∃ vs,KV kvs vs/\h.DictOf (mixKind P w) a vs
 |.dT kvs=>kvs.length≤sizeLine/\(a == sysModules)=false/\∃ xs:List (List Key×Addr×Value),
  Paired (fun (p:List Key×V) (q:List Key×Addr×Value)=>p.1=q.1/\H q.2.1=some (.tup (p.1.map kV))/\RelV p.2 q.2.2) kvs xs/\
  ∃ o es ep,h.get? a=some o/\o.ExactDict/\o.data=.dict es ep/\es.toList=xs.map (entryOfKey (tupleKind (mixKind P w)))/\(xs.map (·.1)).Nodup
 |.set S n=>h.SetOf (intKind P w) a S n
 |.ins C dx fs=>H dx=some (.own a)/\fs.length≤1000/\dx≠a/\h.get? a=some (PySem.W.instObj C dx)/\
  ∃ mA,h.Ns1 dx mA/\(∀ f,RelO (fs.lookup f) (mA f))/\PySem.Within mA (fs.map (·.1))
 |.own _=>∃ o,h.get? a=some o
 |.xd fs=>∃ mA,h.Ns1 a mA/\∀ f,RelO (fs.lookup f) (mA f)
 |.rng lo hi=>∃ t u v,h.get? a=some { cls:=.type "range",data:=.fields #[.int lo t,.int hi u,.int 1 v] }
 |.frz o u=>h.get? a=some o/\ObjOk H h a u
 |.tbl ps=>h.get? a=some { cls:=.none,data:=.fields ps }
 |.met f x=>h.get? a=some (PySem.W.methodObj (.ref f) (.ref x))
 |.ext φ=>φ h/\(∃ o,h.get? a=some o)/\∀ h1 h2:Heap,φ h1->(∀ o,h1.get? a=some o->h2.get? a=some o)->φ h2
def HOk (H:Hp) (h:Heap):Prop:=∀ a o,H a=some o->ObjOk P w H h a o
end
section
variable {P:Program} {w:World} {H H':Hp} {h h':Heap} {a:Addr} {o:HO}
theorem ObjOk.lt (x:ObjOk P w H h a o):a<h.objs.size:=by
 cases o with
 |lst xs=>obtain ⟨_,_,_,_,e⟩:=x;exact Heap.lt_size e
 |tup xs=>obtain ⟨_,_,_,p⟩:=x;exact p.lt
 |dK kvs=>obtain ⟨_,_,_,_,o,_,_,e,_⟩:=x;exact Heap.lt_size e
 |dT kvs=>obtain ⟨_,_,_,_,o,_,_,e,_⟩:=x;exact Heap.lt_size e
 |set S n=>obtain ⟨o,_,_,_,e,_⟩:=x;exact Heap.lt_size e
 |ins C dx fs=>obtain ⟨_,_,_,e,_⟩:=x;exact Heap.lt_size e
 |own y=>obtain ⟨_,e⟩:=x;exact Heap.lt_size e
 |xd fs=>obtain ⟨_,⟨_,_,_,e,_⟩,_⟩:=x;exact Heap.lt_size e
 |rng lo hi=>obtain ⟨_,_,_,e⟩:=x;exact Heap.lt_size e
 |frz ob u=>obtain ⟨e,_⟩:=x;exact Heap.lt_size e
 |tbl ps=>exact Heap.lt_size (show h.get? a=some _ from x)
 |met f y=>exact Heap.lt_size (show h.get? a=some _ from x)
 |ext φ=>obtain ⟨_,⟨_,e⟩,_⟩:=x;exact Heap.lt_size e
theorem Paired.mapP {α β:Type} {F G:α->β->Prop}:∀ {l₁:List α} {l₂:List β},Paired F l₁ l₂->(∀ a b,F a b->G a b)->Paired G l₁ l₂
 |_,_,.nil,_=>.nil
 |_,_,.cons r t,f=>.cons (f _ _ r) (Paired.mapP t f)
theorem ObjOk.stay (x:ObjOk P w H h a o) (k:∀ b u,(b=a∨H b=some (.own a))->h.get? b=some u->h'.get? b=some u)
 (ho:∀ b,H b=some (.own a)->H' b=some (.own a)) (ht:∀ b xs,H b=some (.tup xs)->H' b=some (.tup xs)):ObjOk P w H' h' a o:=by
 induction o with
 |lst xs=>obtain ⟨z,its,n,r,e⟩:=x;exact ⟨z,its,n,r,k _ _ (.inl rfl) e⟩
 |tup xs=>obtain ⟨z,its,r,ob,e,c⟩:=x;exact ⟨z,its,r,ob,k _ _ (.inl rfl) e,c⟩
 |dK kvs=>obtain ⟨z,y,vs,r,ob,es,ep,e,c⟩:=x;exact ⟨z,y,vs,r,ob,es,ep,k _ _ (.inl rfl) e,c⟩
 | dT kvs=>
   obtain ⟨z,y,xs,r,ob,es,ep,e,c⟩:=x
   exact ⟨z,y,xs,Paired.mapP r fun p q z=>⟨z.1,ht _ _ z.2.1,z.2.2⟩,ob,es,ep,k _ _ (.inl rfl) e,c⟩
 |set S n=>obtain ⟨ob,es,ep,t,e,c⟩:=x;exact ⟨ob,es,ep,t,k _ _ (.inl rfl) e,c⟩
 | ins C dx fs=>
   obtain ⟨d,z,ne,e,mA,⟨od,es,ep,e2,c⟩,r⟩:=x
   exact ⟨ho _ d,z,ne,k _ _ (.inl rfl) e,mA,⟨od,es,ep,k _ _ (.inr d) e2,c⟩,r⟩
 |own y=>obtain ⟨ob,e⟩:=x;exact ⟨ob,k _ _ (.inl rfl) e⟩
 |xd fs=>obtain ⟨mA,⟨od,es,ep,e,c⟩,r⟩:=x;exact ⟨mA,⟨od,es,ep,k _ _ (.inl rfl) e,c⟩,r⟩
 |rng lo hi=>obtain ⟨t,u,v,e⟩:=x;exact ⟨t,u,v,k _ _ (.inl rfl) e⟩
 |frz ob u ih=>obtain ⟨e,q⟩:=x;exact ⟨k _ _ (.inl rfl) e,ih q⟩
 | tbl ps=>
   have e:h.get? a=some { cls:=.none,data:=.fields ps }:=x
   show h'.get? a=some { cls:=.none,data:=.fields ps }
   exact k a _ (.inl rfl) e
 | met f y=>
   have e:h.get? a=some (PySem.W.methodObj (.ref f) (.ref y)):=x
   show h'.get? a=some (PySem.W.methodObj (.ref f) (.ref y))
   exact k a _ (.inl rfl) e
 |ext φ=>obtain ⟨p,⟨o,e⟩,st⟩:=x;exact ⟨st _ _ p fun o q=>k _ _ (.inl rfl) q,⟨o,k _ _ (.inl rfl) e⟩,st⟩
theorem HOk.lt (x:HOk P w H h) (e:H a=some o):a<h.objs.size:=(x a o e).lt
theorem HOk.fresh (x:HOk P w H h) (e:h.objs.size≤a):H a=none:=by
 cases q:H a with
 |none=>rfl
 |some u=>exact absurd (Nat.lt_of_lt_of_le (x.lt q) e) (Nat.lt_irrefl _)
theorem HOk.kept (x:HOk P w H h) (k:∀ b u,h.get? b=some u->h'.get? b=some u):HOk P w H h':=fun a o e=>
 (x a o e).stay (fun b u _ q=>k b u q) (fun _ q=>q) fun _ _ q=>q
theorem HOk.laid (x:HOk P w H h) (k:∀ b u,h.get? b=some u->h'.get? b=some u) (hp:h.objs.size≤a) (new:ObjOk P w (upd H a o) h' a o):HOk P w (upd H a o) h':=fun b u e=>by
 have hn:=x.fresh hp
 by_cases hb:b=a
 ·subst hb;rw [upd_same] at e;cases e;exact new
 ·rw [upd_ne hb] at e
  exact (x b u e).stay (fun c v _ q=>k c v q) (fun c q=>by rw [upd_ne (ne_of_none q hn)];exact q) fun c xs q=>by rw [upd_ne (ne_of_none q hn)];exact q
end
def Rd (H:Hp) (a:Addr) (u:HO):Prop:=H a=some u∨∃ o,H a=some (.frz o u)
theorem Rd.ok {P:Program} {w:World} {H:Hp} {h:Heap} {a:Addr} {u:HO} (r:Rd H a u) (x:HOk P w H h):ObjOk P w H h a u:=by
 rcases r with r|⟨o,r⟩
 ·exact x a u r
 ·obtain ⟨_,q⟩:=x a _ r
  exact q
def Mut:Option HO->Prop
 |some (.lst _)=>True
 |some (.dK _)=>True
 |some (.dT _)=>True
 |some (.set _ _)=>True
 |some (.ins _ _ _)=>True
 |some (.ext _)=>True
 |_=>False
section
variable {P:Program} {w:World} {H:Hp} {h h':Heap} {x e:Addr} {o':HO}
theorem HOk.write (ok:HOk P w H h) (mu:Mut (H x)) (he:e=x∨H e=some (.own x)) (k:∀ b u,b≠e->h.get? b=some u->h'.get? b=some u) (heo:∃ u,h'.get? e=some u)
 (new:ObjOk P w (upd H x o') h' x o'):HOk P w (upd H x o') h':=fun b u q=>by
 have nown:∀ c y,H c=some (.own y)->c≠x:=fun c y r z=>by subst z;rw [r] at mu;exact mu
 have ntup:∀ c xs,H c=some (.tup xs)->c≠x:=fun c xs r z=>by subst z;rw [r] at mu;exact mu
 by_cases hb:b=x
 ·subst hb;rw [upd_same] at q;cases q;exact new
 ·rw [upd_ne hb] at q
  by_cases hbe:b=e
  ·have q':H b=some (.own x):=by
    rcases he with z|z
    ·exact absurd (hbe.trans z) hb
    ·rw [hbe];exact z
   rw [q] at q';cases q'
   obtain ⟨v,hv⟩:=heo
   exact ⟨v,by rw [hbe];exact hv⟩
  ·refine (ok b u q).stay (fun c v hc r=>k c v ?_ r) (fun c r=>by rw [upd_ne (nown c b r)];exact r) fun c xs r=>by rw [upd_ne (ntup c xs r)];exact r
   rcases hc with rfl|hc
   ·exact hbe
   ·rintro rfl
    rcases he with z|z
    ·exact nown c b hc z
    ·rw [hc] at z;cases z;exact hb rfl
end
structure Un (fs ex:List Addr) (H H':Hp) (h h':Heap):Prop where
 keep:∀ b o,h.get? b=some o->H b=none->b∉fs->b∉ex->h'.get? b=some o
 slot:∀ b o,h.get? b=some o->H b=none->b∈fs->b∉ex->∃ sl,h'.get? b=some { o with slots:=sl }
 free:∀ b o,h.get? b=some o->H b=none->b∉ex->H' b=none
 there:∀ b o,h.get? b=some o->b∉ex->∃ o',h'.get? b=some o'
 tups:∀ b xs,H b=some (.tup xs)->H' b=some (.tup xs)
 frzs:∀ b o u,H b=some (.frz o u)->H' b=some (.frz o u)
 tbls:∀ b ps,H b=some (.tbl ps)->∃ more,H' b=some (.tbl (ps++more))
section
variable {fs fs' ex ex':List Addr} {H H1 H2:Hp} {h h1 h2 h':Heap} {a x e:Addr} {o:HO}
theorem Un.any (u:Un fs ex H H1 h h1) {b:Addr} {ob:Obj} (q:h.get? b=some ob) (n:H b=none) (hx:b∉ex):∃ sl,h1.get? b=some { ob with slots:=sl }:=by
 by_cases hb:b∈fs
 ·exact u.slot b ob q n hb hx
 ·exact ⟨ob.slots,u.keep b ob q n hb hx⟩
theorem Un.kept (k:∀ b u,h.get? b=some u->h'.get? b=some u):Un fs ex H H h h':=
 ⟨fun b ob q _ _ _=>k b ob q,fun b ob q _ _ _=>⟨ob.slots,k b ob q⟩,fun _ _ _ n _=>n,fun b ob q _=>⟨ob,k b ob q⟩,fun _ _ q=>q,fun _ _ _ q=>q,fun _ ps q=>⟨#[],by rw [q];simp⟩⟩
theorem Un.refl:Un fs ex H H h h:=Un.kept fun _ _ q=>q
theorem Un.laid (k:∀ b u,h.get? b=some u->h'.get? b=some u) (hp:h.objs.size≤a) (hn:H a=none):Un fs ex H (upd H a o) h h' where
 keep:=fun b u q _ _ _=>k b u q
 slot:=fun b u q _ _ _=>⟨u.slots,k b u q⟩
 free:=fun b u q n _=>by rw [upd_ne (Nat.ne_of_lt (Nat.lt_of_lt_of_le (Heap.lt_size q) hp))];exact n
 there:=fun b u q _=>⟨u,k b u q⟩
 tups:=fun b xs q=>by rw [upd_ne (ne_of_none q hn)];exact q
 frzs:=fun b u xs q=>by rw [upd_ne (ne_of_none q hn)];exact q
 tbls:=fun b ps q=>⟨#[],by rw [upd_ne (ne_of_none q hn),q];simp⟩
theorem Un.write (mu:Mut (H x)) (he:e=x∨H e=some (.own x)) (k:∀ b u,b≠e->h.get? b=some u->h'.get? b=some u) (heo:∃ u,h'.get? e=some u):Un fs ex H (upd H x o) h h':=by
 have hx:∀ b,H b=none->b≠x:=fun b n z=>by subst z;rw [n] at mu;exact mu
 have hb:∀ b,H b=none->b≠e:=fun b n z=>by
  subst z
  rcases he with r|r
  ·exact hx b n r
  ·rw [n] at r;cases r
 have hm:∀ b u,H b=some u->¬ Mut (some u)->b≠x:=fun b u q nm z=>by subst z;rw [q] at mu;exact nm mu
 refine ⟨fun b u q n _ _=>k b u (hb b n) q,fun b u q n _ _=>⟨u.slots,k b u (hb b n) q⟩,fun b u q n _=>by rw [upd_ne (hx b n)];exact n,fun b u q _=>?_,
  fun b xs q=>by rw [upd_ne (hm b _ q fun z=>z)];exact q,fun b u xs q=>by rw [upd_ne (hm b _ q fun z=>z)];exact q,fun b ps q=>⟨#[],by rw [upd_ne (hm b _ q fun z=>z),q];simp⟩⟩
 by_cases hbe:b=e
 ·subst hbe;exact heo
 ·exact ⟨u,k b u hbe q⟩
end
def trk (h:Heap) (H:Hp):List Addr:=(List.range h.objs.size).filter fun a=>(H a).isSome
def hidT (h:Heap) (H:Hp):Heap:=PySem.W.hideAll h (trk h H)
theorem hidT_size (h:Heap) (H:Hp):(hidT h H).objs.size=h.objs.size:=PySem.W.hideAll_size _ _
theorem hidT_get {h:Heap} {H:Hp} {b:Addr} {o:Obj} (e:h.get? b=some o) (n:H b=none):(hidT h H).get? b=some o:=
 PySem.W.hideAll_get _ e fun hm=>by
  have q:(H b).isSome=true:=(List.mem_filter.mp hm).2
  rw [n] at q;simp at q
theorem of_hidT {h:Heap} {H:Hp} {b:Addr} {o:Obj} (e:(hidT h H).get? b=some o):h.get? b=some o/\H b=none:=by
 have e':h.get? b=some o:=PySem.W.of_hideAll (trk h H) e
 refine ⟨e',?_⟩
 cases q:H b with
 |none=>rfl
 | some x=>
   have hm:b∈trk h H:=List.mem_filter.mpr ⟨List.mem_range.mpr (Heap.lt_size e'),by simp [q]⟩
   have z:(hidT h H).get? b=none:=PySem.W.hideAll_none (trk h H) hm
   rw [z] at e;cases e
structure Mod (K:PySem.W.Frag) (mg:Str->Option Value) (base:Heap):Prop where
 kin:K.In base
 glob:base.Ns mainGlobals mg
 blt:∃ mb,base.Ns builtinsNs mb/\∀ x:Str,x ≠ "__name__"->mb x=bootBuiltins x
 nolimit:base.NoLimit
structure Cx where
 prog:Program
 w:World
 K:PySem.W.Frag
 mg:Str->Option Value
 base:Heap
 A:Around
 N:List Str
 s₀:Shared
 H₀:Hp
 env:Env
 outer:List Env
 stack:List Env
 ex:List Addr
 fn:Str->Bool
 calm:Bool
 pn:List (Addr×Obj)
 xe:Value->Shared->Prop
def frs (l:List Env):List Addr:=l.filterMap (·.frame)
abbrev Cx.fs (X:Cx):List Addr:=frs X.outer
def Vis (sc:Scope) (x:Str):Prop:=sc.names.lookup x=some .local∨sc.names.lookup x=some .cell∨sc.names.lookup x=some .free
def Loc (sc:Scope) (x:Str):Prop:=sc.names.lookup x=some .local∨sc.names.lookup x=some .cell
def Look (env:Env) (h:Heap) (m:Str->Option Value) (x:Str) (u:Value):Prop:=
 (env.kindOf x=some .local/\m x=some u)∨((env.kindOf x=some .cell∨env.kindOf x=some .free)/\∃ c,env.cells.lookup x=some c/\h.IsCell c (some u))
structure Cx.Ok (X:Cx):Prop where
 mod:Mod X.K X.mg X.base
 kind:X.env.scope.kind=.function
 glob:X.env.globals=mainGlobals
 blt:X.env.builtins=builtinsNs
 above:X.s₀.heap.objs.size≤X.env.locals
 inj:∀ x y c,X.env.cells.lookup x=some c->X.env.cells.lookup y=some c->x=y
 has:∀ x,(X.env.kindOf x=some .cell∨X.env.kindOf x=some .free)->∃ c,X.env.cells.lookup x=some c
 cab:∀ x c,X.fn x=true->X.env.cells.lookup x=some c->X.s₀.heap.objs.size≤c
 hd:X.calm=true->X.A.handled=none
 frames:X.A.frames=some X.stack
 stk:X.stack=X.outer∨(X.stack=X.env::X.outer/\X.env.frame=some X.env.locals)
 exf:∀ b∈X.ex,b≠X.env.locals/\∀ x c,X.env.cells.lookup x=some c->c≠b
 bs:∀ b o,X.base.get? b=some o->X.s₀.heap.get? b=some o/\X.H₀ b=none
 bsz:X.base.objs.size≤X.s₀.heap.objs.size
 noex:∀ b o,X.base.get? b=some o->b∉X.ex
 exfs:∀ b∈X.ex,b∉X.fs
 funs:X.s₀.heap.FunFrames X.base X.outer
 frf:∀ b∈X.fs,X.H₀ b=none
structure Inv (X:Cx) (pins:List (Addr×Obj)) (σ:List (Option V)) (H:Hp) (s:Shared):Prop where
 ok:X.Ok
 os:s.os=X.s₀.os
 bare:AllBare s.gens
 base:Un X.fs X.ex X.H₀ H X.s₀.heap s.heap
 loc:∃ m,s.heap.Ns X.env.locals m/\∀ (i:Nat) (x:Str) (v:V),X.N[i]?=some x->σ[i]?=some (some v)->Vis X.env.scope x->∃ u,RelV v u/\Look X.env s.heap m x u
 cell:∀ x c,X.env.cells.lookup x=some c->∃ v,s.heap.IsCell c v
 free:H X.env.locals=none
 freeC:∀ x c,X.env.cells.lookup x=some c->H c=none
 pin:∀ p∈X.pn++pins,s.heap.get? p.1=some p.2/\H p.1=none/\p.1≠X.env.locals/\p.1∉X.fs/\∀ v,p.2.data≠.cell v
 hok:HOk X.prog X.w H s.heap
 len:σ.length=X.N.length
section
variable {X:Cx} {pins:List (Addr×Obj)} {σ:List (Option V)} {H H':Hp} {s:Shared} {h':Heap}
theorem Cx.Ok.nofr (ok:X.Ok) {b:Addr} {o:Obj} (e:X.base.get? b=some o):b∉X.fs:=fun hb=>by
 have:=(ok.funs.mem hb).1
 rw [e] at this;cases this
theorem Inv.bs (I:Inv X pins σ H s):∀ b o,X.base.get? b=some o->s.heap.get? b=some o/\H b=none:=fun b o e=>
 ⟨I.base.keep b o (I.ok.bs b o e).1 (I.ok.bs b o e).2 (I.ok.nofr e) (I.ok.noex b o e),I.base.free b o (I.ok.bs b o e).1 (I.ok.bs b o e).2 (I.ok.noex b o e)⟩
theorem Inv.bk (I:Inv X pins σ H s):∀ b o,X.base.get? b=some o->s.heap.get? b=some o:=fun b o e=>(I.bs b o e).1
theorem Inv.mod (I:Inv X pins σ H s):Mod X.K X.mg X.base:=I.ok.mod
theorem Inv.kIn (I:Inv X pins σ H s):X.K.In s.heap:=I.ok.mod.kin.keeps I.bk
theorem Inv.lt (I:Inv X pins σ H s):X.env.locals<s.heap.objs.size:=let ⟨_,hn,_⟩:=I.loc;hn.lt
theorem Inv.sz (I:Inv X pins σ H s):X.s₀.heap.objs.size≤s.heap.objs.size:=Nat.le_trans I.ok.above (Nat.le_of_lt I.lt)
theorem Inv.nofs (I:Inv X pins σ H s) {a:Addr} (h:s.heap.objs.size≤a):a∉X.fs:=fun hb=>by
 obtain ⟨_,o,ho,_⟩:=I.ok.funs.mem hb
 exact absurd (Nat.lt_of_lt_of_le (Heap.lt_size ho) (Nat.le_trans I.sz h)) (Nat.lt_irrefl _)
theorem Inv.cne (I:Inv X pins σ H s):∀ x c,X.env.cells.lookup x=some c->c≠X.env.locals:=fun x c e z=>by
 obtain ⟨v,o,ho,hd⟩:=I.cell x c e
 obtain ⟨m,⟨o',es,ep,ho',hd',_⟩,_⟩:=I.loc
 rw [z,ho'] at ho;cases ho;rw [hd'] at hd;cases hd
theorem Inv.funs (I:Inv X pins σ H s):s.heap.FunFrames X.base X.outer:=by
 have all:∀ (l:List Env),(∀ b∈frs l,b∈X.fs)->X.s₀.heap.FunFrames X.base l->s.heap.FunFrames X.base l:=by
  intro l
  induction l with
  |nil=>intro _ _;trivial
  | cons env r ih=>
    intro hs hl
    obtain ⟨hk,⟨L,o,hf,hn,ho,hd⟩,hr⟩:=hl
    have hL:L∈X.fs:=hs L (by unfold frs;rw [List.filterMap_cons,hf];exact List.mem_cons_self)
    obtain ⟨sl,e⟩:=I.base.slot L o ho (I.ok.frf L hL) hL fun z=>I.ok.exfs L z hL
    exact ⟨hk,⟨L,_,hf,hn,e,hd⟩,ih (fun b hb=>hs b (by unfold frs;rw [List.filterMap_cons,hf];exact List.mem_cons_of_mem _ hb)) hr⟩
 exact all X.outer (fun _ hb=>hb) I.ok.funs
theorem Inv.stack (I:Inv X pins σ H s):s.heap.FunFrames X.base X.stack:=by
 rcases I.ok.stk with e|⟨e,hf⟩
 ·rw [e];exact I.funs
 ·rw [e]
  obtain ⟨m,hn,_⟩:=I.loc
  refine .cons (by rw [I.ok.kind];decide) hf hn ?_ I.funs
  exact Heap.get?_none_of_le (Nat.le_trans I.ok.bsz I.ok.above)
theorem Inv.stkSub (I:Inv X pins σ H s):∀ b∈frs X.stack,b∈X.env.locals::X.fs:=fun b hb=>by
 rcases I.ok.stk with e|⟨e,hf⟩
 ·rw [e] at hb;exact List.mem_cons_of_mem _ hb
 ·rw [e] at hb
  unfold frs at hb
  rw [List.filterMap_cons,hf] at hb
  exact hb
theorem Inv.stkFree (I:Inv X pins σ H s):∀ b∈frs X.stack,H b=none:=fun b hb=>by
 rcases List.mem_cons.mp (I.stkSub b hb) with e|hb
 ·rw [e];exact I.free
 ·obtain ⟨_,o,ho,_⟩:=I.ok.funs.mem hb
  exact I.base.free b o ho (I.ok.frf b hb) fun z=>I.ok.exfs b z hb
theorem Inv.step {g':Array GenState} {t':Nat} {d':Drawn} {ch:List Addr} (I:Inv X pins σ H s)
 (hch:∀ b∈ch,(b∈X.ex∨X.s₀.heap.objs.size≤b)/\b≠X.env.locals/\(∀ x c,X.env.cells.lookup x=some c->c≠b)/\∀ p∈X.pn++pins,p.1≠b)
 (keep:∀ b o,b≠X.env.locals->b∉X.fs->b∉ch->s.heap.get? b=some o->H b=none->h'.get? b=some o)
 (slot:∀ b o,b≠X.env.locals->b∈X.fs->b∉ch->s.heap.get? b=some o->H b=none->∃ sl,h'.get? b=some { o with slots:=sl }) (free:∀ b o,b∉ch->s.heap.get? b=some o->H b=none->H' b=none)
 (there:∀ b o,b∉ch->s.heap.get? b=some o->∃ o',h'.get? b=some o')
 (tups:∀ b xs,H b=some (.tup xs)->H' b=some (.tup xs)) (frzs:∀ b o u,H b=some (.frz o u)->H' b=some (.frz o u)) (tbls:∀ b ps,H b=some (.tbl ps)->∃ more,H' b=some (.tbl (ps++more)))
 (ns:∀ m,s.heap.Ns X.env.locals m->h'.Ns X.env.locals m) (hok:HOk X.prog X.w H' h') (hg:AllBare g') :
 Inv X pins σ H' { s with heap:=h',gens:=g',drawn:=d',toks:=t' }:=by
 have neL:∀ b o,X.s₀.heap.get? b=some o->b≠X.env.locals:=fun b o e=>Nat.ne_of_lt (Nat.lt_of_lt_of_le (Heap.lt_size e) I.ok.above)
 have neC:∀ b o,X.s₀.heap.get? b=some o->b∉X.ex->b∉ch:=fun b o e hx hb=>by
  rcases (hch b hb).1 with z|z
  ·exact hx z
  ·exact absurd (Nat.lt_of_lt_of_le (Heap.lt_size e) z) (Nat.lt_irrefl _)
 have cellK:∀ x c,X.env.cells.lookup x=some c->∀ v,s.heap.IsCell c v->h'.IsCell c v:=fun x c e v ⟨o,ho,hd⟩=>by
  have nch:c∉ch:=fun z=>(hch c z).2.2.1 x c e rfl
  by_cases hc:c∈X.fs
  ·obtain ⟨sl,q⟩:=slot c o (I.cne x c e) hc nch ho (I.freeC x c e)
   exact ⟨_,q,hd⟩
  ·exact ⟨o,keep c o (I.cne x c e) hc nch ho (I.freeC x c e),hd⟩
 refine ⟨I.ok,I.os,hg,⟨fun b o e n hb hx=>?_,fun b o e n hb hx=>?_,fun b o e n hx=>?_,fun b o e hx=>?_,fun b xs e=>tups b xs (I.base.tups b xs e),fun b o xs e=>frzs b o xs (I.base.frzs b o xs e),fun b ps e=>?_⟩,?_,fun x c e=>?_,?_,fun x c e=>?_,fun p hp=>?_,hok,I.len⟩
 ·exact keep b o (neL b o e) hb (neC b o e hx) (I.base.keep b o e n hb hx) (I.base.free b o e n hx)
 ·obtain ⟨sl,e1⟩:=I.base.slot b o e n hb hx
  obtain ⟨sl',e2⟩:=slot b _ (neL b o e) hb (neC b o e hx) e1 (I.base.free b o e n hx)
  exact ⟨sl',e2⟩
 ·obtain ⟨o',e1⟩:=I.base.there b o e hx
  exact free b o' (neC b o e hx) e1 (I.base.free b o e n hx)
 ·obtain ⟨o',e1⟩:=I.base.there b o e hx
  exact there b o' (neC b o e hx) e1
 ·obtain ⟨m1,e1⟩:=I.base.tbls b ps e
  obtain ⟨m2,e2⟩:=tbls b _ e1
  exact ⟨m1++m2,by rw [e2,Array.append_assoc]⟩
 ·obtain ⟨m,hn,hl⟩:=I.loc
  refine ⟨m,ns m hn,fun i x v e1 e2 e3=>?_⟩
  obtain ⟨u,r,l⟩:=hl i x v e1 e2 e3
  refine ⟨u,r,?_⟩
  rcases l with l|⟨k,c,e,z⟩
  ·exact .inl l
  ·exact .inr ⟨k,c,e,cellK x c e _ z⟩
 ·obtain ⟨v,z⟩:=I.cell x c e
  exact ⟨v,cellK x c e v z⟩
 ·obtain ⟨m,⟨o,_,_,ho,_⟩,_⟩:=I.loc
  exact free _ o (fun z=>(hch _ z).2.1 rfl) ho I.free
 ·obtain ⟨v,o,ho,hd⟩:=I.cell x c e
  exact free c o (fun z=>(hch c z).2.2.1 x c e rfl) ho (I.freeC x c e)
 ·obtain ⟨e,n,ne,nf,d⟩:=I.pin p hp
  have nch:p.1∉ch:=fun z=>(hch p.1 z).2.2.2 p hp rfl
  exact ⟨keep p.1 p.2 ne nf nch e n,free p.1 p.2 nch e n,ne,nf,d⟩
theorem Inv.un {t':Nat} (I:Inv X pins σ H s) (u:Un X.fs [] H H' s.heap h') (hok:HOk X.prog X.w H' h'):Inv X pins σ H' { s with heap:=h',toks:=t' }:=by
 obtain ⟨m,⟨o,es,ep,ho,r⟩,_⟩:=id I.loc
 obtain ⟨sl,hL⟩:=u.any ho I.free (by simp)
 exact I.step (g':=s.gens) (d':=s.drawn) (ch:=[]) (fun _ z=>nomatch z) (fun b o _ hb _ e n=>u.keep b o e n hb (by simp)) (fun b o _ hb _ e n=>u.slot b o e n hb (by simp)) (fun b o _ e n=>u.free b o e n (by simp)) (fun b o _ e=>u.there b o e (by simp)) u.tups u.frzs u.tbls (fun m' hm=>by
  obtain ⟨o',es',ep',ho',r'⟩:=hm
  rw [ho] at ho';cases ho'
  exact ⟨_,es',ep',hL,r'⟩) hok I.bare
theorem Inv.call {g':Array GenState} {t':Nat} {d':Drawn} {ch:List Addr} (I:Inv X pins σ H s) (u:Un (frs X.stack) ch H H' s.heap h') (hok:HOk X.prog X.w H' h') (hg:AllBare g')
 (hch:∀ b∈ch,(b∈X.ex∨X.s₀.heap.objs.size≤b)/\b≠X.env.locals/\(∀ x c,X.env.cells.lookup x=some c->c≠b)/\∀ p∈X.pn++pins,p.1≠b) :
 Inv X pins σ H' { s with heap:=h',gens:=g',drawn:=d',toks:=t' }:=by
 obtain ⟨m,⟨o,es,ep,ho,r⟩,_⟩:=id I.loc
 obtain ⟨sl,hL⟩:=u.any ho I.free fun z=>(hch _ z).2.1 rfl
 exact I.step (ch:=ch) hch (fun b o hL hb hc e n=>u.keep b o e n (fun z=>(List.mem_cons.mp (I.stkSub b z)).elim hL hb) hc) (fun b o _ _ hc e n=>u.any e n hc) (fun b o hc e n=>u.free b o e n hc) (fun b o hc e=>u.there b o e hc) u.tups u.frzs u.tbls (fun m' hm=>by
  obtain ⟨o',es',ep',ho',r'⟩:=hm
  rw [ho] at ho';cases ho'
  exact ⟨_,es',ep',hL,r'⟩) hok hg
theorem Inv.turned {t':Nat} {it:Addr} (I:Inv X pins σ H s) (k:∀ b o,b≠it->s.heap.get? b=some o->h'.get? b=some o) (hn:H it=none) (hL:it≠X.env.locals)
 (h1:it∈X.ex∨X.s₀.heap.objs.size≤it) (h2:∀ x c,X.env.cells.lookup x=some c->c≠it) (h3:∀ p∈X.pn++pins,p.1≠it):Inv X pins σ H { s with heap:=h',toks:=t' }:=by
 have nit:∀ b u,H b=some u->b≠it:=fun b u e z=>by rw [z,hn] at e;cases e
 refine I.step (g':=s.gens) (d':=s.drawn) (ch:=[it]) (fun b hb=>?_) (fun b o _ _ hc e _=>k b o (fun z=>hc (by simp [z])) e) (fun b o _ _ hc e _=>⟨o.slots,k b o (fun z=>hc (by simp [z])) e⟩) (fun _ _ _ _ n=>n)
  (fun b o hc e=>⟨o,k b o (fun z=>hc (by simp [z])) e⟩) (fun _ _ e=>e) (fun _ _ _ e=>e) (fun b ps e=>⟨#[],by rw [e];simp⟩) (fun m hm=>?_) (fun b u e=>?_) I.bare
 ·have e:b=it:=by simpa using hb
  subst e
  exact ⟨h1,hL,h2,h3⟩
 ·obtain ⟨o,es,ep,ho,r⟩:=hm
  exact ⟨o,es,ep,k _ o (Ne.symm hL) ho,r⟩
 ·refine (I.hok b u e).stay (fun c v hc q=>k c v ?_ q) (fun _ q=>q) fun _ _ q=>q
  rcases hc with z|z
  ·rw [z];exact nit b u e
  ·exact nit c _ z
theorem Inv.tok (I:Inv X pins σ H s) (t:Nat):Inv X pins σ H { s with toks:=t }:=I.un (h':=s.heap) (t':=t) Un.refl I.hok
theorem Inv.kept {t':Nat} (I:Inv X pins σ H s) (k:∀ b u,s.heap.get? b=some u->h'.get? b=some u):Inv X pins σ H { s with heap:=h',toks:=t' }:=I.un (Un.kept k) (I.hok.kept k)
theorem Inv.laid {a:Addr} {o:HO} {t':Nat} (I:Inv X pins σ H s) (k:∀ b u,s.heap.get? b=some u->h'.get? b=some u) (hp:s.heap.objs.size≤a) (new:ObjOk X.prog X.w (upd H a o) h' a o) :
 Inv X pins σ (upd H a o) { s with heap:=h',toks:=t' }:=I.un (Un.laid k hp (I.hok.fresh hp)) (I.hok.laid k hp new)
theorem Inv.write {x e:Addr} {o:HO} {t':Nat} (I:Inv X pins σ H s) (mu:Mut (H x)) (he:e=x∨H e=some (.own x)) (k:∀ b u,b≠e->s.heap.get? b=some u->h'.get? b=some u) (heo:∃ u,h'.get? e=some u)
 (new:ObjOk X.prog X.w (upd H x o) h' x o):Inv X pins σ (upd H x o) { s with heap:=h',toks:=t' }:=I.un (Un.write mu he k heo) (I.hok.write mu he k heo new)
theorem Inv.pins_of {pins':List (Addr×Obj)} (I:Inv X pins σ H s) (h:∀ p∈pins',s.heap.get? p.1=some p.2/\H p.1=none/\p.1≠X.env.locals/\p.1∉X.fs/\∀ v,p.2.data≠.cell v):Inv X pins' σ H s:=
 ⟨I.ok,I.os,I.bare,I.base,I.loc,I.cell,I.free,I.freeC,fun p hp=>(List.mem_append.mp hp).elim (fun z=>I.pin p (List.mem_append_left _ z)) (h p),I.hok,I.len⟩
theorem nodup_ix {N:List Str} (hN:N.Nodup) {i j:Nat} {x:Str} (a:N[i]?=some x) (b:N[j]?=some x):i=j:=by
 obtain ⟨h1,e1⟩:=List.getElem?_eq_some_iff.mp a
 obtain ⟨h2,e2⟩:=List.getElem?_eq_some_iff.mp b
 exact (List.getElem_inj hN).mp (e1.trans e2.symm)
theorem store_ok2 {M:Model} {A:Around} {E:Value->Shared->Prop} {i:Nat} {x:Str} {v:V} {u:Value} {Q:Unit->Shared->Prop} (I:Inv X pins σ H s) (hN:X.N.Nodup) (hi:X.N[i]?=some x) (hx:Loc X.env.scope x) (r:RelV v u)
 (h:∀ s',Inv X pins (σ.set i (some v)) H s'->(∃ a,Heap.SameBut a s.heap s'.heap/\(a=X.env.locals∨X.env.cells.lookup x=some a))->Q () s') (hf:X.fn x=true∨X.env.scope.names.lookup x=some .local:=by first|exact .inl rfl|exact .inr rfl|assumption):wpAny M A (storeName X.env x u) Q E s:=by
 obtain ⟨m,hn,hl⟩:=id I.loc
 have hcls:(X.env.scope.kind == .class || (X.env.scope.kind == .module && X.env.locals != X.env.globals))=false:=by rw [I.ok.kind];rfl
 have hiσ:i<σ.length:=by rw [I.len];exact (List.getElem?_eq_some_iff.mp hi).1
 have cne:=I.cne
 have tracked:∀ {a:Addr} {h':Heap},(∃ o,s.heap.get? a=some o/\H a=none)->Heap.SameBut a s.heap h'->HOk X.prog X.w H h':=fun {a h'} ha hs b ob e=>by
  obtain ⟨_,_,hfree⟩:=ha
  refine (I.hok b ob e).stay (fun c w' hc q=>(hs.2 c ?_).trans q) (fun _ q=>q) fun _ _ q=>q
  rintro rfl
  rcases hc with rfl|hc
  ·rw [hfree] at e;cases e
  ·rw [hfree] at hc;cases hc
 rcases hx with hk|hk
 ·refine wpAny_storeName_local hk hn (fun h' hn' hs=>?_) hcls
  obtain ⟨oL,_,_,hoL,_⟩:=id hn
  refine h _ ⟨I.ok,I.os,I.bare,⟨fun b o e n hb hx=>?_,fun b o e n hb hx=>?_,I.base.free,fun b o e hx=>?_,I.base.tups,I.base.frzs,I.base.tbls⟩,⟨_,hn',fun j y v' e1 e2 e3=>?_⟩,fun y c e=>?_,I.free,I.freeC,fun p hp=>?_,tracked ⟨oL,hoL,I.free⟩ hs,by simpa using I.len⟩ ⟨_,hs,.inl rfl⟩
  ·exact (hs.2 b (Nat.ne_of_lt (Nat.lt_of_lt_of_le (Heap.lt_size e) I.ok.above))).trans (I.base.keep b o e n hb hx)
  ·obtain ⟨sl,e1⟩:=I.base.slot b o e n hb hx
   exact ⟨sl,(hs.2 b (Nat.ne_of_lt (Nat.lt_of_lt_of_le (Heap.lt_size e) I.ok.above))).trans e1⟩
  ·obtain ⟨o',e1⟩:=I.base.there b o e hx
   exact ⟨o',(hs.2 b (Nat.ne_of_lt (Nat.lt_of_lt_of_le (Heap.lt_size e) I.ok.above))).trans e1⟩
  ·by_cases hj:j=i
   ·subst hj
    rw [hi] at e1;cases e1
    rw [List.getElem?_set_self hiσ] at e2
    cases e2
    exact ⟨u,r,.inl ⟨hk,by simp⟩⟩
   ·rw [List.getElem?_set_ne (Ne.symm hj)] at e2
    obtain ⟨u',r',q⟩:=hl j y v' e1 e2 e3
    refine ⟨u',r',?_⟩
    rcases q with ⟨k,e⟩|⟨k,c,e,z⟩
    ·refine .inl ⟨k,?_⟩
     have:y≠x:=fun e=>hj (nodup_ix hN e1 (e ▸ hi))
     simp [this,e]
    ·exact .inr ⟨k,c,e,z.sameBut hs (cne y c e)⟩
  ·obtain ⟨w',z⟩:=I.cell y c e
   exact ⟨w',z.sameBut hs (cne y c e)⟩
  ·obtain ⟨e,n,ne,nf,d⟩:=I.pin p hp
   exact ⟨(hs.2 p.1 ne).trans e,n,ne,nf,d⟩
 ·have hfn:X.fn x=true:=by
   rcases hf with z|z
   ·exact z
   ·rw [z] at hk;cases hk
  obtain ⟨c,hc⟩:=I.ok.has x (.inl hk)
  obtain ⟨w',z⟩:=I.cell x c hc
  refine wpAny_storeName_cell I.ok.kind hk hc z (fun h' hc' hs=>?_)
  obtain ⟨oc,hoc,hocd⟩:=id z
  refine h { s with heap:=h' } ⟨I.ok,I.os,I.bare,⟨fun b o e n hb hx=>?_,fun b o e n hb hx=>?_,I.base.free,fun b o e hx=>?_,I.base.tups,I.base.frzs,I.base.tbls⟩,⟨m,hn.sameBut hs (Ne.symm (cne x c hc)),fun j y v' e1 e2 e3=>?_⟩,fun y c' e=>?_,I.free,I.freeC,fun p hp=>?_,tracked ⟨oc,hoc,I.freeC x c hc⟩ hs,by simpa using I.len⟩ ⟨c,hs,.inr hc⟩
  ·exact (hs.2 b (Nat.ne_of_lt (Nat.lt_of_lt_of_le (Heap.lt_size e) (I.ok.cab x c hfn hc)))).trans (I.base.keep b o e n hb hx)
  ·obtain ⟨sl,e1⟩:=I.base.slot b o e n hb hx
   exact ⟨sl,(hs.2 b (Nat.ne_of_lt (Nat.lt_of_lt_of_le (Heap.lt_size e) (I.ok.cab x c hfn hc)))).trans e1⟩
  ·obtain ⟨o',e1⟩:=I.base.there b o e hx
   exact ⟨o',(hs.2 b (Nat.ne_of_lt (Nat.lt_of_lt_of_le (Heap.lt_size e) (I.ok.cab x c hfn hc)))).trans e1⟩
  ·by_cases hj:j=i
   ·subst hj
    rw [hi] at e1;cases e1
    rw [List.getElem?_set_self hiσ] at e2
    cases e2
    exact ⟨u,r,.inr ⟨.inl hk,c,hc,hc'⟩⟩
   ·rw [List.getElem?_set_ne (Ne.symm hj)] at e2
    obtain ⟨u',r',q⟩:=hl j y v' e1 e2 e3
    refine ⟨u',r',?_⟩
    rcases q with q|⟨k,c',e,z'⟩
    ·exact .inl q
    ·refine .inr ⟨k,c',e,z'.sameBut hs ?_⟩
     rintro rfl
     exact hj (nodup_ix hN e1 (I.ok.inj _ _ _ e hc ▸ hi))
  ·by_cases hcc:c'=c
   ·subst hcc;exact ⟨_,hc'⟩
   ·obtain ⟨w2,z2⟩:=I.cell y c' e
    exact ⟨w2,z2.sameBut hs hcc⟩
  ·obtain ⟨e,n,ne,nf,d⟩:=I.pin p hp
   refine ⟨(hs.2 p.1 ?_).trans e,n,ne,nf,d⟩
   intro q
   rw [q,hoc] at e
   have q':oc=p.2:=Option.some.inj e
   exact d w' (by rw [← q'];exact hocd)
theorem store_ok {M:Model} {A:Around} {E:Value->Shared->Prop} {i:Nat} {x:Str} {v:V} {u:Value} {Q:Unit->Shared->Prop} (I:Inv X pins σ H s) (hN:X.N.Nodup) (hi:X.N[i]?=some x) (hx:Loc X.env.scope x) (r:RelV v u)
 (h:∀ s',Inv X pins (σ.set i (some v)) H s'->Q () s') (hf:X.fn x=true∨X.env.scope.names.lookup x=some .local:=by first|exact .inl rfl|exact .inr rfl|assumption):wpAny M A (storeName X.env x u) Q E s:=
 store_ok2 I hN hi hx r (fun s' I' _=>h s' I') hf
theorem Inv.call' {s':Shared} {ch:List Addr} (I:Inv X pins σ H s) (ho:s'.os=s.os) (u:Un (frs X.stack) ch H H' s.heap s'.heap) (hok:HOk X.prog X.w H' s'.heap) (hg:AllBare s'.gens)
 (hch:∀ b∈ch,(b∈X.ex∨X.s₀.heap.objs.size≤b)/\b≠X.env.locals/\(∀ x c,X.env.cells.lookup x=some c->c≠b)/\∀ p∈X.pn++pins,p.1≠b):Inv X pins σ H' s':=by
 obtain ⟨h',g',d',t',o'⟩:=s'
 have e:o'=s.os:=ho
 subst e
 exact I.call (g':=g') (t':=t') (d':=d') u hok hg hch
end
abbrev XK:=Value->Option Addr->Hp->Prop
abbrev St:=List (Option V)
abbrev VK:=V->Hp->Prop
abbrev TE:=St->Hp->VK->Prop
abbrev TT:=St->Hp->(Bool->Hp->Prop)->Prop
abbrev TA:=St->Hp->(List V->Hp->Prop)->Prop
structure Ends where
 nx:St->Hp->Prop
 rt:VK
 bk:St->Hp->Prop:=fun _ _=>False
 ct:St->Hp->Prop:=fun _ _=>False
abbrev TS:=Ends->St->Hp->Prop
def EP (X:Cx) (pins:List (Addr×Obj)) (σ:St) (Q:VK) (u:Value) (s':Shared):Prop:=∃ v H',Inv X pins σ H' s'/\RelV v u/\Q v H'
def TP (X:Cx) (pins:List (Addr×Obj)) (σ:St) (Q:Bool->Hp->Prop) (b:Bool) (s':Shared):Prop:=∃ H',Inv X pins σ H' s'/\Q b H'
def AP (X:Cx) (pins:List (Addr×Obj)) (σ:St) (Q:List V->Hp->Prop) (us:List Value) (s':Shared):Prop:=∃ vs H',Inv X pins σ H' s'/\Vals vs us/\Q vs H'
def SP (X:Cx) (pins:List (Addr×Obj)) (D:Ends) (f:Flow) (s':Shared):Prop:=
 match f with
 |.next=>∃ σ' H',Inv X pins σ' H' s'/\D.nx σ' H'
 |.brk=>∃ σ' H',Inv X pins σ' H' s'/\D.bk σ' H'
 |.cont=>∃ σ' H',Inv X pins σ' H' s'/\D.ct σ' H'
 |.ret u=>∃ v σ' H',Inv X pins σ' H' s'/\RelV v u/\D.rt v H'
def PE (X:Cx) (e:Expr) (t:TE):Prop:=
 ∀ (pins:List (Addr×Obj)) (s:Shared) (σ:St) (H:Hp) (Q:VK),Inv X pins σ H s->t σ H Q->wpAny (model X.prog X.w) X.A (eval e X.env) (EP X pins σ Q) X.xe s
def PT (X:Cx) (e:Expr) (t:TT):Prop:=
 ∀ (pins:List (Addr×Obj)) (s:Shared) (σ:St) (H:Hp) (Q:Bool->Hp->Prop),Inv X pins σ H s->t σ H Q->wpAny (model X.prog X.w) X.A (isTrue e X.env (eval e X.env)) (TP X pins σ Q) X.xe s
def PW (X:Cx) (e:Expr) (t:TT):Prop:=
 ∀ (whole:Sem Value) (pins:List (Addr×Obj)) (s:Shared) (σ:St) (H:Hp) (Q:Bool->Hp->Prop),Inv X pins σ H s->t σ H Q->wpAny (model X.prog X.w) X.A (isTrue e X.env whole) (TP X pins σ Q) X.xe s
theorem PW.pt {X:Cx} {e:Expr} {t:TT} (h:PW X e t):PT X e t:=h _
def PA (X:Cx) (es:List Expr) (t:TA):Prop:=
 ∀ (pos:Pos) (pins:List (Addr×Obj)) (s:Shared) (σ:St) (H:Hp) (Q:List V->Hp->Prop),Inv X pins σ H s->t σ H Q->wpAny (model X.prog X.w) X.A (spliced (backTo pos (starEach es X.env))) (AP X pins σ Q) X.xe s
def PS (X:Cx) (st:Stmt) (t:TS):Prop:=
 ∀ (pins:List (Addr×Obj)) (s:Shared) (σ:St) (H:Hp) (D:Ends),Inv X pins σ H s->t D σ H->wpAny (model X.prog X.w) X.A (exec st X.env) (SP X pins D) X.xe s
def PSs (X:Cx) (st:List Stmt) (t:TS):Prop:=
 ∀ (pins:List (Addr×Obj)) (s:Shared) (σ:St) (H:Hp) (D:Ends),Inv X pins σ H s->t D σ H->wpAny (model X.prog X.w) X.A (execs st X.env) (SP X pins D) X.xe s
theorem thn {α:Type} {t:Sem α} {Q Q':α->Shared->Prop} {M:Model} {A:Around} {E:Value->Shared->Prop} {s:Shared} (h:wpAny M A t Q E s) (hQ:∀ a s,Q a s->Q' a s):wpAny M A t Q' E s:=wpAny_mono h hQ fun _ _ x=>x
section
variable {X:Cx}
theorem bin {a b:Expr} {ta tb:TE} (ha:PE X a ta) (hb:PE X b tb) {pins:List (Addr×Obj)} {s:Shared} {σ:St} {H:Hp} {R:V->V->Hp->Prop} (I:Inv X pins σ H s) (h:ta σ H fun x H1=>tb σ H1 fun y H2=>R x y H2)
 {α:Type} {Q:α->Shared->Prop} {f:Value->Value->Sem α}
 (hf:∀ v u s2 x y H2,Inv X pins σ H2 s2->RelV x v->RelV y u->R x y H2->wpAny (model X.prog X.w) X.A (f v u) Q X.xe s2) :
 wpAny (model X.prog X.w) X.A (eval a X.env) (fun v s₁=>wpAny (model X.prog X.w) X.A (eval b X.env) (fun u s₂=>wpAny (model X.prog X.w) X.A (f v u) Q X.xe s₂) X.xe s₁) X.xe s:=by
 refine thn (ha pins s σ H _ I h) fun v s1 ⟨x,H1,I1,r1,q1⟩=>?_
 refine thn (hb pins s1 σ H1 _ I1 q1) fun u s2 ⟨y,H2,I2,r2,q2⟩=>?_
 exact hf v u s2 x y H2 I2 r1 r2 q2
def tVar (i:Nat):TE:=fun σ H Q=>∃ v,σ[i]?=some (some v)/\Q v H
def tC (v:V):TE:=fun _ H Q=>Q v H
theorem pe_var {i:Nat} {x:Str} {pos:Pos} (hN:X.N[i]?=some x) (hv:Vis X.env.scope x) (hd:(x == ("__debug__" : Str))=false:=by decide) (hcd:(x == ("__classdict__" : Str))=false:=by decide):PE X (.Name x pos) (tVar i):=by
 intro pins s σ H Q I h
 obtain ⟨v,e,h⟩:=h
 obtain ⟨m,hn,hl⟩:=I.loc
 obtain ⟨u,r,l⟩:=hl i x v hN e hv
 have fin:EP X pins σ Q u s:=⟨v,H,I,r,h⟩
 rcases l with ⟨hk,hm⟩|⟨hk,c,hc,hcell⟩
 ·exact wpAny_Name (wpAny_loadName_local I.ok.kind hk hn hm fin) hd
 ·rcases hk with hk|hk
  ·exact wpAny_Name (wpAny_loadName_cell I.ok.kind hk hc hcell fin) hd
  ·exact wpAny_Name (wpAny_loadName_free I.ok.kind hk hc hcell fin hcd) hd
theorem pe_int {i j pos}:PE X (.Constant (.int i) j pos) (tC (.int i)):=fun _ _ _ H _ I h=>wpAny_Constant_int ⟨.int i,H,I.tok _,⟨_,rfl⟩,h⟩
theorem pe_bl {b j pos}:PE X (.Constant (.bool b) j pos) (tC (.bl b)):=fun _ _ _ H _ I h=>Constant_bool ⟨.bl b,H,I,rfl,h⟩
theorem pe_non {j pos}:PE X (.Constant .none j pos) (tC .non):=fun _ _ _ H _ I h=>Constant_none ⟨.non,H,I,rfl,h⟩
theorem pe_str {x j pos}:PE X (.Constant (.str x) j pos) (tC (.str x)):=fun _ _ _ H _ I h=>Calls.Constant_str ⟨.str x,H,I.tok _,⟨_,rfl⟩,h⟩
def Gl (X:Cx) (x:Str):Prop:=X.env.kindOf x=some .globalImplicit
theorem ld_glob {E:Value->Shared->Prop} {pins:List (Addr×Obj)} {s:Shared} {σ:St} {H:Hp} {x:Str} {u:Value} {pos:Pos} {Q:Value->Shared->Prop} (I:Inv X pins σ H s) (hg:Gl X x) (hm:X.mg x=some u) (h:Q u s)
 (hd:(x == ("__debug__" : Str))=false:=by decide):wpAny (model X.prog X.w) X.A (eval (.Name x pos) X.env) Q E s:=
 Calls.Name_function_global I.ok.kind hg (Calls.loadGlobal_global (by rw [I.ok.glob];exact I.mod.glob.keeps I.bk) hm h) hd
theorem ld_blt {E:Value->Shared->Prop} {pins:List (Addr×Obj)} {s:Shared} {σ:St} {H:Hp} {x:Str} {u:Value} {pos:Pos} {Q:Value->Shared->Prop} (I:Inv X pins σ H s) (hg:Gl X x) (hm:X.mg x=none) (hv:bootBuiltins x=some u) (h:Q u s)
 (hn:x ≠ "__name__":=by decide) (hd:(x == ("__debug__" : Str))=false:=by decide):wpAny (model X.prog X.w) X.A (eval (.Name x pos) X.env) Q E s:=by
 obtain ⟨mb,h1,h2⟩:=I.mod.blt
 exact Calls.Name_function_global I.ok.kind hg (Calls.loadGlobal_builtin (by rw [I.ok.glob];exact I.mod.glob.keeps I.bk) hm (by rw [I.ok.blt];exact h1.keeps I.bk) ((h2 x hn).trans hv) h) hd
theorem pe_glob {x:Str} {v:V} {u:Value} {pos:Pos} (hg:Gl X x) (hm:X.mg x=some u) (r:RelV v u) (hd:(x == ("__debug__" : Str))=false:=by decide):PE X (.Name x pos) (tC v):=
 fun _ _ _ H _ I h=>ld_glob I hg hm ⟨v,H,I,r,h⟩ hd
theorem pe_bltn {x:Str} {v:V} {u:Value} {pos:Pos} (hg:Gl X x) (hm:X.mg x=none) (hv:bootBuiltins x=some u) (r:RelV v u) (hn:x ≠ "__name__":=by decide) (hd:(x == ("__debug__" : Str))=false:=by decide):PE X (.Name x pos) (tC v):=
 fun _ _ _ H _ I h=>ld_blt I hg hm hv ⟨v,H,I,r,h⟩ hn hd
variable {a b:Expr} {ta tb:TE} {pos:Pos}
def PC (X:Cx) (op:CmpOp) (a b:Expr) (t:TE):Prop:=
 ∀ (pins:List (Addr×Obj)) (s:Shared) (σ:St) (H:Hp) (Q:VK),Inv X pins σ H s->t σ H Q->
   wpAny (model X.prog X.w) X.A (eval a X.env) (fun v s₁=>wpAny (model X.prog X.w) X.A (eval b X.env) (fun u s₂=>wpAny (model X.prog X.w) X.A (compareOp op v u) (EP X pins σ Q) X.xe s₂) X.xe s₁) X.xe s
def tB (t:TE):TT:=fun σ H Q=>t σ H fun x H1=>∃ c,x=.bl c/\Q c H1
theorem pt_cmp {op:CmpOp} {t:TE} (h:PC X op a b t) (h1:behindInMarks op b=false:=by first|exact nobehind _ (by decide) (by decide)|rfl):PT X (.Compare a [op] [b] pos) (tB t):=by
 intro pins s σ H Q I hw
 refine wpAny_isTrue_Compare1 (thn (h pins s σ H _ I hw) fun v s1 h1=>thn h1 fun u s2 h2=>thn h2 fun c s3 ⟨x,H1,I1,r1,q1⟩=>?_) h1
 obtain ⟨d,rfl,q⟩:=q1
 cases r1
 exact wpAny_truthy_bool ⟨H1,I1,q⟩
theorem pt_val {e:Expr} {t:TE} (h:PE X e t) (he:∀ whole,isTrue e X.env whole=(do let v ← whole;standAt e.pos;holding [v] (truthy v)):=by intro _;rfl):PT X e (tB t):=by
 intro pins s σ H Q I hw
 refine isTrue_plain (thn (h pins s σ H _ I hw) fun v s1 ⟨x,H1,I1,r1,q1⟩=>?_) (he _)
 obtain ⟨d,rfl,q⟩:=q1
 cases r1
 exact wpAny_truthy_bool ⟨H1,I1,q⟩
variable {tA tB':TT} {rest:List Expr}
def tAnd (t u:TT):TT:=fun σ H Q=>t σ H fun c H1=>if c=true then u σ H1 Q else Q false H1
def tOr (t u:TT):TT:=fun σ H Q=>t σ H fun c H1=>if c=true then Q true H1 else u σ H1 Q
def tNot (t:TT):TT:=fun σ H Q=>t σ H fun c H1=>Q (!c) H1
theorem pw_and1 (ha:PT X a tA):PW X (.BoolOp .And [a] pos) tA:=by
 intro wh pins s σ H Q I h
 refine isTrue_and (thn (ha pins s σ H Q I h) fun c s1 e=>?_)
 cases c with
 |true=>exact isTrue_and_nil e
 |false=>exact e
theorem pw_or1 (ha:PT X a tA):PW X (.BoolOp .Or [a] pos) tA:=by
 intro wh pins s σ H Q I h
 refine isTrue_or (thn (ha pins s σ H Q I h) fun c s1 e=>?_)
 cases c with
 |false=>exact isTrue_or_nil e
 |true=>exact e
theorem pw_and (ha:PT X a tA) (hb:PW X (.BoolOp .And (b::rest) pos) tB'):PW X (.BoolOp .And (a::b::rest) pos) (tAnd tA tB'):=by
 intro wh pins s σ H Q I h
 refine isTrue_and (thn (ha pins s σ H _ I h) fun c s1 ⟨H1,I1,q1⟩=>?_)
 cases c with
 |true=>exact hb wh pins s1 σ H1 Q I1 q1
 |false=>exact ⟨H1,I1,q1⟩
theorem pw_or (ha:PT X a tA) (hb:PW X (.BoolOp .Or (b::rest) pos) tB'):PW X (.BoolOp .Or (a::b::rest) pos) (tOr tA tB'):=by
 intro wh pins s σ H Q I h
 refine isTrue_or (thn (ha pins s σ H _ I h) fun c s1 ⟨H1,I1,q1⟩=>?_)
 cases c with
 |true=>exact ⟨H1,I1,q1⟩
 |false=>exact hb wh pins s1 σ H1 Q I1 q1
theorem pt_not (ha:PT X a tA):PT X (.UnaryOp .Not a pos) (tNot tA):=by
 intro pins s σ H Q I h
 exact isTrue_not (ha pins s σ H (fun c H1=>Q (!c) H1) I h)
def tAndV (ta tb:TE):TE:=fun σ H Q=>ta σ H fun x H1=>∃ c,x=.bl c/\if c=true then tb σ H1 Q else Q (.bl false) H1
def tOrV (ta tb:TE):TE:=fun σ H Q=>ta σ H fun x H1=>∃ c,x=.bl c/\if c=true then Q (.bl true) H1 else tb σ H1 Q
def tNotV (ta:TE):TE:=fun σ H Q=>ta σ H fun x H1=>∃ c,x=.bl c/\Q (.bl (!c)) H1
theorem pe_one {op} {t:TE} (h:PE X a t):PE X (.BoolOp op [a] pos) t:=fun pins s σ H Q I hw=>BoolOp_one (h pins s σ H Q I hw)
theorem pe_and (ha:PE X a ta) (hb:PE X (.BoolOp .And (b::rest) pos) tb):PE X (.BoolOp .And (a::b::rest) pos) (tAndV ta tb):=by
 intro pins s σ H Q I h
 refine BoolOp_and (thn (ha pins s σ H _ I h) fun v s1 ⟨x,H1,I1,r1,q1⟩=>?_)
 obtain ⟨c,rfl,q1⟩:=q1
 cases r1
 refine wpAny_truthy_bool ?_
 cases c with
 |true=>exact hb pins s1 σ H1 Q I1 q1
 |false=>exact ⟨.bl false,H1,I1,rfl,q1⟩
theorem pe_or (ha:PE X a ta) (hb:PE X (.BoolOp .Or (b::rest) pos) tb):PE X (.BoolOp .Or (a::b::rest) pos) (tOrV ta tb):=by
 intro pins s σ H Q I h
 refine BoolOp_or (thn (ha pins s σ H _ I h) fun v s1 ⟨x,H1,I1,r1,q1⟩=>?_)
 obtain ⟨c,rfl,q1⟩:=q1
 cases r1
 refine wpAny_truthy_bool ?_
 cases c with
 |false=>exact hb pins s1 σ H1 Q I1 q1
 |true=>exact ⟨.bl true,H1,I1,rfl,q1⟩
theorem pe_not (ha:PE X a ta):PE X (.UnaryOp .Not a pos) (tNotV ta):=by
 intro pins s σ H Q I h
 refine UnaryOp_ (thn (ha pins s σ H _ I h) fun v s1 ⟨x,H1,I1,r1,q1⟩=>?_)
 obtain ⟨c,rfl,q1⟩:=q1
 cases r1
 exact not_of (wpAny_truthy_bool ⟨.bl (!c),H1,I1,rfl,q1⟩)
def tIf (t:TT) (ta tb:TE):TE:=fun σ H Q=>t σ H fun c H1=>if c=true then ta σ H1 Q else tb σ H1 Q
theorem pe_ifExp {c:Expr} (hc:PT X c tA) (ha:PE X a ta) (hb:PE X b tb):PE X (.IfExp c a b pos) (tIf tA ta tb):=by
 intro pins s σ H Q I h
 refine wpAny_IfExp (thn (hc pins s σ H _ I h) fun d s1 ⟨H1,I1,q1⟩=>?_)
 cases d with
 |true=>exact ha pins s1 σ H1 Q I1 q1
 |false=>exact hb pins s1 σ H1 Q I1 q1
end
def SqL (K:PySem.W.Frag) (H:Hp) (a:Addr) (xs:List V):Prop:=
 Rd H a (.lst xs)∨
  ∃ (o:Obj) (its:Array Value) (n:Nat),K.lookup a=some o/\o.cls=.type "list"/\o.dict=none/\o.data=.seq its n/\its.size≤sizeLine/\Vals xs its.toList
def SqT (K:PySem.W.Frag) (H:Hp) (a:Addr) (xs:List V):Prop:=
 Rd H a (.tup xs)∨
  ∃ (o:Obj) (its:Array Value) (n:Nat),K.lookup a=some o/\o.cls=.type "tuple"/\o.data=.seq its n/\its.size≤sizeLine/\Vals xs its.toList
def absV:Value->Option V
 |.none=>some .non
 |.bool b=>some (.bl b)
 |.int i _=>some (.int i)
 |.str x _=>some (.str x)
 |.bytes b _=>some (.byt b)
 |.float b _=>some (.flt b)
 |.ref a=>some (.ref a)
 |.type n=>some (.ty n)
 |_=>none
theorem RelV.abs {x:V} {u:Value} (r:RelV x u):absV u=some x:=by
 cases x with
 |non=>cases r;rfl
 |bl _=>cases r;rfl
 |int _=>obtain ⟨t,rfl⟩:=r;rfl
 |str _=>obtain ⟨t,rfl⟩:=r;rfl
 |byt _=>obtain ⟨t,rfl⟩:=r;rfl
 |flt _=>obtain ⟨t,rfl⟩:=r;rfl
 |ref _=>cases r;rfl
 |ty _=>cases r;rfl
theorem RelV.inj {x y:V} {u:Value} (r:RelV x u) (q:RelV y u):x=y:=Option.some.inj (r.abs.symm.trans q.abs)
theorem Vals.inj:∀ {xs ys:List V} {us:List Value},Vals xs us->Vals ys us->xs=ys
 |_,_,_,.nil,.nil=>rfl
 |_,_,_,.cons r t,.cons r' t'=>by rw [r.inj r',Vals.inj t t']
section
variable {X:Cx} {pins:List (Addr×Obj)} {σ:St} {H:Hp} {s:Shared} {a:Addr} {xs ys:List V}
theorem SqL.of {K:PySem.W.Frag} (h:H a=some (.lst xs)):SqL K H a xs:=.inl (.inl h)
theorem SqT.of {K:PySem.W.Frag} (h:H a=some (.tup xs)):SqT K H a xs:=.inl (.inl h)
theorem Inv.list (I:Inv X pins σ H s) (h:SqL X.K H a xs):∃ its:List Value,Vals xs its/\PlainL s.heap a its.toArray/\xs.length≤sizeLine:=by
 rcases h with h|⟨o,its,n,hk,hc,hd,hs,hz,r⟩
 ·obtain ⟨z,its,n,r,e⟩:=h.ok I.hok
  exact ⟨its,r,⟨_,n,e,rfl,rfl,rfl⟩,z⟩
 ·refine ⟨its.toList,r,⟨o,n,I.kIn a o hk,hc,hd,by simpa using hs⟩,?_⟩
  have e:=r.length
  simp only [Array.length_toList] at e
  omega
theorem Inv.tuple (I:Inv X pins σ H s) (h:SqT X.K H a xs):∃ its:List Value,Vals xs its/\IsTup s.heap a its.toArray/\xs.length≤sizeLine:=by
 rcases h with h|⟨o,its,n,hk,hc,hs,hz,r⟩
 ·obtain ⟨z,its,r,p⟩:=h.ok I.hok
  exact ⟨its,r,p,z⟩
 ·refine ⟨its.toList,r,⟨o,I.kIn a o hk,hc,n,by simpa using hs⟩,?_⟩
  have e:=r.length
  simp only [Array.length_toList] at e
  omega
theorem Inv.list_inj (I:Inv X pins σ H s) (h:SqL X.K H a xs) (h':SqL X.K H a ys):xs=ys:=by
 obtain ⟨its,r,⟨o,n,e,_,_,d⟩,_⟩:=I.list h
 obtain ⟨its',r',⟨o',n',e',_,_,d'⟩,_⟩:=I.list h'
 rw [e] at e';cases e'
 rw [d] at d'
 injection d' with d1 _
 have:its=its':=by simpa using congrArg Array.toList d1
 subst this
 exact r.inj r'
theorem Inv.tuple_inj (I:Inv X pins σ H s) (h:SqT X.K H a xs) (h':SqT X.K H a ys):xs=ys:=by
 obtain ⟨its,r,⟨o,e,_,n,d⟩,_⟩:=I.tuple h
 obtain ⟨its',r',⟨o',e',_,n',d'⟩,_⟩:=I.tuple h'
 rw [e] at e';cases e'
 rw [d] at d'
 injection d' with d1 _
 have:its=its':=by simpa using congrArg Array.toList d1
 subst this
 exact r.inj r'
end
abbrev Cx.wish (X:Cx) (E:Value->Shared->Prop):Cx:={ X with xe:=E }
abbrev Cx.nox (X:Cx):Cx:=X.wish fun _ _=>False
theorem Cx.Ok.wish {X:Cx} (ok:X.Ok) (E:Value->Shared->Prop):(X.wish E).Ok:=
 ⟨ok.mod,ok.kind,ok.glob,ok.blt,ok.above,ok.inj,ok.has,ok.cab,ok.hd,ok.frames,ok.stk,ok.exf,ok.bs,ok.bsz,ok.noex,ok.exfs,ok.funs,ok.frf⟩
theorem Cx.Ok.unwish {X:Cx} {E:Value->Shared->Prop} (ok:(X.wish E).Ok):X.Ok:=
 ⟨ok.mod,ok.kind,ok.glob,ok.blt,ok.above,ok.inj,ok.has,ok.cab,ok.hd,ok.frames,ok.stk,ok.exf,ok.bs,ok.bsz,ok.noex,ok.exfs,ok.funs,ok.frf⟩
section
variable {X:Cx} {pins:List (Addr×Obj)} {σ:St} {H:Hp} {s:Shared} {E:Value->Shared->Prop}
theorem Inv.wish (I:Inv X pins σ H s) (E:Value->Shared->Prop):Inv (X.wish E) pins σ H s:=⟨I.ok.wish E,I.os,I.bare,I.base,I.loc,I.cell,I.free,I.freeC,I.pin,I.hok,I.len⟩
theorem Inv.unwish (I:Inv (X.wish E) pins σ H s):Inv X pins σ H s:=⟨I.ok.unwish,I.os,I.bare,I.base,I.loc,I.cell,I.free,I.freeC,I.pin,I.hok,I.len⟩
theorem SP.unwish {D:Ends} {f:Flow} {s':Shared} (h:SP (X.wish E) pins D f s'):SP X pins D f s':=by
 cases f with
 |next=>obtain ⟨σ',H',I,q⟩:=h;exact ⟨σ',H',I.unwish,q⟩
 |brk=>obtain ⟨σ',H',I,q⟩:=h;exact ⟨σ',H',I.unwish,q⟩
 |cont=>obtain ⟨σ',H',I,q⟩:=h;exact ⟨σ',H',I.unwish,q⟩
 |ret u=>obtain ⟨v,σ',H',I,r,q⟩:=h;exact ⟨v,σ',H',I.unwish,r,q⟩
theorem PSs.nox {st:List Stmt} {t:TS} (h:PSs X.nox st t):PSs X st t:=fun pins s σ H D I hw=>
 wpAny_mono (h pins s σ H D (I.wish _) hw) (fun _ _ q=>q.unwish) fun _ _ z=>False.elim z
end
section
variable {X:Cx} {st:Stmt} {rest:List Stmt} {t u:TS} {e:Expr} {te:TE} {pos:Pos}
def tNext:TS:=fun D σ H=>D.nx σ H
def tSeq (t u:TS):TS:=fun D σ H=>t { D with nx:=u D } σ H
theorem pss_nil:PSs X [] tNext:=fun _ _ σ H _ I h=>wpAny_execs_nil ⟨σ,H,I,h⟩
theorem pss_cons (h1:PS X st t) (h2:PSs X rest u):PSs X (st::rest) (tSeq t u):=by
 intro pins s σ H D I h
 refine wpAny_execs_cons (thn (h1 pins s σ H { D with nx:=u D } I h) fun f s1 q=>?_)
 cases f with
 | next=>
   obtain ⟨σ',H',I',q⟩:=q
   exact h2 pins s1 σ' H' D I' q
 |ret v=>exact q
 |brk=>exact q
 |cont=>exact q
theorem pss_one (h1:PS X st t):PSs X [st] t:=by
 intro pins s σ H D I h
 refine wpAny_execs_cons (thn (h1 pins s σ H D I h) fun f s1 q=>?_)
 cases f with
 |next=>exact wpAny_execs_nil q
 |ret v=>exact q
 |brk=>exact q
 |cont=>exact q
theorem Inv.quiet {pins:List (Addr×Obj)} {σ:St} {H:Hp} {s:Shared} (I:Inv X pins σ H s):interactive X.env=false:=by simp [interactive,I.ok.kind]
def tDrop (te:TE):TS:=fun D σ H=>te σ H fun _ H1=>D.nx σ H1
theorem ps_expr (he:PE X e te) (hs:swapsWith e none pos.line X.env=pure false:=by rfl):PS X (.Expr e pos) (tDrop te):=by
 intro pins s σ H D I h
 exact wpAny_Expr_any (thn (he pins s σ H _ I h) fun v s1 ⟨x,H1,I1,r1,q1⟩=>⟨σ,H1,I1,q1⟩) I.quiet hs
def tRet (te:TE):TS:=fun D σ H=>te σ H D.rt
theorem ps_ret (he:PE X e te):PS X (.Return (some e) pos) (tRet te):=by
 intro pins s σ H D I h
 exact wpAny_Return_some (thn (he pins s σ H _ I h) fun v s1 ⟨x,H1,I1,r1,q1⟩=>⟨x,σ,H1,I1,r1,q1⟩)
def tIfS (c:TT) (t u:TS):TS:=fun D σ H=>c σ H fun b H1=>if b=true then t D σ H1 else u D σ H1
theorem ps_if {c:Expr} {a b:List Stmt} {tc:TT} (hc:PT X c tc) (ha:PSs X a t) (hb:PSs X b u):PS X (.If c a b pos) (tIfS tc t u):=by
 intro pins s σ H D I h
 refine wpAny_If (thn (hc pins s σ H _ I h) fun d s1 ⟨H1,I1,q1⟩=>?_)
 cases d with
 |true=>exact ha pins s1 σ H1 D I1 q1
 |false=>exact hb pins s1 σ H1 D I1 q1
def tNever:TS:=fun _ _ _=>False
theorem ps_never:PS X st tNever:=fun _ _ _ _ _ _ h=>h.elim
end
abbrev TG:=V->St->Hp->(St->Hp->Prop)->Prop
abbrev TGs:=List V->St->Hp->(St->Hp->Prop)->Prop
def PG (X:Cx) (target:Expr) (t:TG):Prop:=
 ∀ (pins:List (Addr×Obj)) (s:Shared) (σ:St) (H:Hp) (v:V) (u:Value) (Q:St->Hp->Prop),Inv X pins σ H s->RelV v u->t v σ H Q->
   wpAny (model X.prog X.w) X.A (assign target X.env u) (fun _ s'=>∃ σ' H',Inv X pins σ' H' s'/\Q σ' H') X.xe s
def PGs (X:Cx) (ts:List Expr) (t:TGs):Prop:=
 ∀ (pins:List (Addr×Obj)) (s:Shared) (σ:St) (H:Hp) (vs:List V) (us:List Value) (Q:St->Hp->Prop),Inv X pins σ H s->Vals vs us->t vs σ H Q->
   wpAny (model X.prog X.w) X.A (assignInOrder ((assignEach ts X.env).map (·.2)) us) (fun _ s'=>∃ σ' H',Inv X pins σ' H' s'/\Q σ' H') X.xe s
abbrev TIp:=V->V->Hp->VK->Prop
def PIp (X:Cx) (op:Operator) (t:TIp):Prop:=
 ∀ (pins:List (Addr×Obj)) (s:Shared) (σ:St) (H:Hp) (x y:V) (v u:Value) (Q:VK),Inv X pins σ H s->RelV x v->RelV y u->t x y H Q->
   wpAny (model X.prog X.w) X.A (inplaceOp op v u) (EP X pins σ Q) X.xe s
section
variable {X:Cx} {pos:Pos}
def gName (i:Nat):TG:=fun v σ H Q=>Q (σ.set i (some v)) H
theorem pg_name {i:Nat} {x:Str} (hN:X.N.Nodup) (hi:X.N[i]?=some x) (hx:Loc X.env.scope x) (hf:X.fn x=true∨X.env.scope.names.lookup x=some .local:=by first|exact .inl rfl|exact .inr rfl|assumption):PG X (.Name x pos) (gName i):=by
 intro pins s σ H v u Q I r h
 exact wpAny_assign_Name (store_ok I hN hi hx r (fun s' I'=>⟨_,H,I',h⟩) hf)
def gNil:TGs:=fun vs σ H Q=>vs=[]/\Q σ H
def gCons (t:TG) (u:TGs):TGs:=fun vs σ H Q=>∃ v r,vs=v::r/\t v σ H fun σ' H'=>u r σ' H' Q
theorem pgs_nil:PGs X [] gNil:=by
 intro pins s σ H vs us Q I r h
 obtain ⟨e,h⟩:=h
 subst e
 cases r
 exact assignInOrder_nil ⟨σ,H,I,h⟩
theorem pgs_cons {e:Expr} {es:List Expr} {t:TG} {u:TGs} (h1:PG X e t) (h2:PGs X es u)
 (hs:(assignEach (e::es) X.env).map (·.2)=assign e X.env::(assignEach es X.env).map (·.2):=by rfl):PGs X (e::es) (gCons t u):=by
 intro pins s σ H vs us Q I r h
 obtain ⟨v,vr,e1,h⟩:=h
 subst e1
 cases r with
 | cons r rr=>
   rw [hs]
   refine assignInOrder_cons (thn (h1 pins s σ H _ _ _ I r h) fun _ s1 ⟨σ1,H1,I1,q1⟩=>?_)
   exact h2 pins s1 σ1 H1 _ _ Q I1 rr q1
def gTup (K:PySem.W.Frag) (n:Nat) (t:TGs):TG:=fun v σ H Q=>∃ a xs,v=.ref a/\SqT K H a xs/\xs.length=n/\t xs σ H Q
theorem pg_tup {es:List Expr} {k:Nat} {t:TGs} {n:Nat} (hc:X.calm=true) (h:PGs X es t)
 (hn:(assignEach es X.env).length=n:=by rfl) (hst:(assignEach es X.env).findIdx? (·.1)=none:=by rfl):PG X (.Tuple es k pos) (gTup X.K n t):=by
 intro pins s σ H v u Q I r hw
 obtain ⟨a,xs,e1,hq,hl,hw⟩:=hw
 subst e1
 cases r
 obtain ⟨its,rv,ht,hz⟩:=I.tuple hq
 refine assign_Tuple_tuple (I.ok.hd hc) ht (by simp [hn,← hl,rv.length]) hst fun h' hx=>?_
 have I1:Inv X pins σ H { s with heap:=h' }:=I.kept (t':=s.toks) fun b o e=>hx b o (Nat.ne_of_lt (Heap.lt_size e)) e
 exact h pins _ σ H xs _ Q I1 (by simpa using rv) hw
def tAsg (te:TE) (g:TG):TS:=fun D σ H=>te σ H fun x H1=>g x σ H1 D.nx
theorem ps_set {i:Nat} {x:Str} {e:Expr} {te:TE} {pos':Pos} (hN:X.N.Nodup) (hi:X.N[i]?=some x) (hx:Loc X.env.scope x) (he:PE X e te) (hs:swapsWith e (some (.Name x pos')) pos.line X.env=pure false:=by rfl) (hf:X.fn x=true∨X.env.scope.names.lookup x=some .local:=by first|exact .inl rfl|exact .inr rfl|assumption) :
 PS X (.Assign [.Name x pos'] e pos) (tAsg te (gName i)):=by
 intro pins s σ H D I h
 refine wpAny_Assign_Name (thn (he pins s σ H _ I h) fun v s1 ⟨y,H1,I1,r1,q1⟩=>?_) hs
 exact store_ok I1 hN hi hx r1 (fun s2 I2=>⟨_,H1,I2,q1⟩) hf
def tPar (i j:Nat) (ta:TA):TS:=fun D σ H=>ta σ H fun vs H1=>∃ v w,vs=[v,w]/\D.nx ((σ.set i (some v)).set j (some w)) H1
theorem ps_par {i j:Nat} {x y:Str} {a b:Expr} {ta:TA} {px py pt:Pos} {kt k2 pt2} (hc:X.calm=true) (hN:X.N.Nodup) (hi:X.N[i]?=some x) (hj:X.N[j]?=some y) (hij:i≠j)
 (hx:X.env.scope.names.lookup x=some .local) (hy:X.env.scope.names.lookup y=some .local) (ha:PA X [a,b] ta)
 (hw:swappedStores [.Tuple [.Name x px,.Name y py] kt pt] (.Tuple [a,b] k2 pt2) X.env=pure (some [x,y]))
 (hs:swapsWithSole [.Tuple [.Name x px,.Name y py] kt pt] (.Tuple [a,b] k2 pt2) pos.line X.env=pure false:=by rfl) :
 PS X (.Assign [.Tuple [.Name x px,.Name y py] kt pt] (.Tuple [a,b] k2 pt2) pos) (tPar i j ta):=by
 intro pins s σ H D I h
 rw [exec_Assign_arm]
 refine wpAny_bind (wpAny_standAt ?_)
 rw [hs]
 refine wpAny_bind (wpAny_pure ?_)
 rw [if_neg (by decide)]
 refine wpAny_bind (Tuple_ (thn (ha _ pins s σ H _ I h) fun us s1 ⟨vs,H1,I1,r1,q1⟩=>?_))
 obtain ⟨v,w,e1,q1⟩:=q1
 subst e1
 obtain ⟨u1,u2,rfl,rv,rw'⟩:∃ u1 u2,us=[u1,u2]/\RelV v u1/\RelV w u2:=by
  cases r1 with
  | cons p q=>
    cases q with
    | cons p' q'=>
      cases q'
      exact ⟨_,_,rfl,p,p'⟩
 refine wpAny_newObj_type ?_ (by show 2≤sizeLine;decide)
 have I2:Inv X pins σ H1 { s1 with heap:=s1.heap.push { cls:=.type "tuple",data:=.seq [u1,u2].toArray } }:=I1.kept (t':=s1.toks) fun b o e=>Heap.get?_push_of_some _ e
 rw [hw]
 refine wpAny_bind (wpAny_pure ?_)
 show wpAny (model X.prog X.w) X.A (do rule "assign.swapped-stores";let items ← unpackItems (.ref s1.heap.objs.size) 2 none;assignInOrder [fun v=>bindName X.env y v,fun v=>bindName X.env x v] items.reverse;pure Flow.next) _ _ _
 refine wpAny_bind (wpAny_rule (wpAny_bind (unpackItems_tuple (items:=#[u1,u2]) (I.ok.hd hc) (IsTup.new s1.heap _) fun h' hx'=>?_)))
 have I3:=I2.kept (h':=h') (t':=s1.toks) fun b o e=>hx' b o (Nat.ne_of_lt (Heap.lt_size e)) e
 show wpAny _ _ (assignInOrder [fun v=>bindName X.env y v,fun v=>bindName X.env x v] [u2,u1] >>= fun _=>pure Flow.next) _ _ _
 refine wpAny_bind (assignInOrder_cons (wpAny_bindName (store_ok I3 hN hj (.inl hy) rw' (fun s2 I4=>?_) (.inr hy))))
 refine assignInOrder_cons (wpAny_bindName (store_ok I4 hN hi (.inl hx) rv (fun s3 I5=>assignInOrder_nil (wpAny_pure ?_)) (.inr hx)))
 rw [List.set_comm _ _ (Ne.symm hij)] at I5
 exact ⟨_,H1,I5,q1⟩
def tAug (i:Nat) (te:TE) (ti:TIp):TS:=fun D σ H=>∃ x,σ[i]?=some (some x)/\te σ H fun y H1=>ti x y H1 fun z H2=>D.nx (σ.set i (some z)) H2
theorem ps_aug {i:Nat} {x:Str} {e:Expr} {te:TE} {op:Operator} {ti:TIp} {pos':Pos} (hN:X.N.Nodup) (hi:X.N[i]?=some x) (hx:Loc X.env.scope x) (he:PE X e te) (ho:PIp X op ti) (hf:X.fn x=true∨X.env.scope.names.lookup x=some .local:=by first|exact .inl rfl|exact .inr rfl|assumption) :
 PS X (.AugAssign (.Name x pos') op e pos) (tAug i te ti):=by
 intro pins s σ H D I h
 obtain ⟨v,e1,h⟩:=h
 obtain ⟨m,hn,hl⟩:=I.loc
 have vis:Vis X.env.scope x:=by rcases hx with k|k;exact .inl k;exact .inr (.inl k)
 obtain ⟨u,r,l⟩:=hl i x v hi e1 vis
 refine wpAny_AugAssign_Name ?_
 have go:wpAny (model X.prog X.w) X.A (eval e X.env) (fun w s₂=>wpAny (model X.prog X.w) X.A (inplaceOp op u w) (fun r s₃=>wpAny (model X.prog X.w) X.A (storeName X.env x r) (fun _=>SP X pins D .next) X.xe s₃) X.xe s₂) X.xe s:=by
  refine thn (he pins s σ H _ I h) fun w s1 ⟨y,H1,I1,r1,q1⟩=>?_
  refine thn (ho pins s1 σ H1 v y u w _ I1 r r1 q1) fun z s2 ⟨zv,H2,I2,r2,q2⟩=>?_
  exact store_ok I2 hN hi hx r2 (fun s3 I3=>⟨_,H2,I3,q2⟩) hf
 rcases l with ⟨hk,hm⟩|⟨hk,c,hc,hcell⟩
 ·exact wpAny_loadName_local I.ok.kind hk hn hm go
 ·rcases hk with hk|hk
  ·exact wpAny_loadName_cell I.ok.kind hk hc hcell go
  ·rcases hx with k|k
   ·have:X.env.scope.names.lookup x=some .free:=hk
    rw [k] at this;cases this
   ·have:X.env.scope.names.lookup x=some .free:=hk
    rw [k] at this;cases this
def ipI (f:Int->Int->Int):TIp:=fun x y H Q=>∃ i j,x=.int i/\y=.int j/\Q (.int (f i j)) H
theorem ip_add:PIp X .Add (ipI fun i j=>i+j):=by
 intro pins s σ H x y v u Q I r1 r2 h
 obtain ⟨i,j,e1,e2,q⟩:=h
 subst e1;subst e2
 obtain ⟨t,rfl⟩:=r1
 obtain ⟨t',rfl⟩:=r2
 exact iadd_int ⟨.int _,H,I.tok _,⟨_,rfl⟩,q⟩
end
section
variable {X:Cx} {pos:Pos}
def tWhile (c:TT) (tb:TS):TS:=fun D σ H=>∃ W:Nat->St->Hp->Prop,(∃ m,W m σ H)/\∀ m σ H,W m σ H->
 c σ H fun b H1=>if b=true then ∃ N:St->Hp->Prop,(∀ σ' H',N σ' H'->∃ m',m'<m/\W m' σ' H')/\tb { D with nx:=N,ct:=N,bk:=D.nx } σ H1 else D.nx σ H1
theorem ps_while {c:Expr} {body:List Stmt} {tc:TT} {tb:TS} (hp:PassesOwn (model X.prog X.w) X.A X.env X.xe) (hc:PT X c tc) (hb:PSs X body tb):PS X (.While c body [] pos) (tWhile tc tb):=by
 intro pins s σ H D I h
 obtain ⟨W,⟨m0,w0⟩,turn⟩:=h
 refine wpAny_While (codeAny_whileLoop (fun n s'=>∃ σ' H',Inv X pins σ' H' s'/\W n σ' H') ?_ m0 ⟨σ,H,I,w0⟩)
 rintro n s1 ⟨σ1,H1,I1,w1⟩
 refine wpAny_passesOwn hp (thn (hc pins s1 σ1 H1 _ I1 (turn n σ1 H1 w1)) fun b s2 ⟨H2,I2,q2⟩=>?_)
 cases b with
 | true=>
   obtain ⟨N,hN,q2⟩:=q2
   rw [if_pos rfl]
   refine wpAny_passesOwn hp (thn (hb pins s2 σ1 H2 _ I2 q2) fun f s3 q3=>?_)
   cases f with
   | next=>
     obtain ⟨σ3,H3,I3,n3⟩:=q3
     obtain ⟨m',hm,w3⟩:=hN σ3 H3 n3
     exact ⟨m',hm,σ3,H3,I3,w3⟩
   | cont=>
     obtain ⟨σ3,H3,I3,n3⟩:=q3
     obtain ⟨m',hm,w3⟩:=hN σ3 H3 n3
     exact ⟨m',hm,σ3,H3,I3,w3⟩
   |brk=>exact q3
   |ret v=>exact q3
 | false=>
   rw [if_neg Bool.false_ne_true]
   exact wpAny_execs_nil ⟨σ1,H2,I2,q2⟩
end
structure It where
 go:Nat->Hp->Prop
 yld:Nat->Hp->V->Hp->Prop
 stop:Nat->Hp->Prop
def FpOk (X:Cx) (pins:List (Addr×Obj)) (H:Hp) (b:Addr):Prop:=
 H b=none/\b≠X.env.locals/\b∉X.fs/\(b∈X.ex∨X.s₀.heap.objs.size≤b)/\(∀ x c,X.env.cells.lookup x=some c->c≠b)/\∀ p∈X.pn++pins,p.1≠b
theorem Inv.fpOk {X:Cx} {pins:List (Addr×Obj)} {σ:St} {H H':Hp} {s:Shared} {b:Addr} (I:Inv X pins σ H s) (hb:s.heap.objs.size≤b) (hn:H' b=none):FpOk X pins H' b:=by
 refine ⟨hn,Nat.ne_of_gt (Nat.lt_of_lt_of_le I.lt hb),I.nofs hb,.inr (Nat.le_trans I.sz hb),fun x c e z=>?_,fun p hp z=>?_⟩
 ·obtain ⟨v,q⟩:=I.cell x c e
  exact absurd (Nat.lt_of_lt_of_le q.lt (by rw [z];exact hb)) (Nat.lt_irrefl _)
 ·exact absurd (Nat.lt_of_lt_of_le (Heap.lt_size (I.pin p hp).1) (by rw [z];exact hb)) (Nat.lt_irrefl _)
structure Turn (P:Program) (w:World) (K:PySem.W.Frag) (tg:Expr) (J:It) (fp:List Addr) (it:Addr) (tn:Nat->Heap->Prop):Prop where
 mem:it∈fp
 obj:∀ i h,tn i h->∀ b∈fp,∃ o,h.get? b=some o/\∀ v,o.data≠.cell v
 keep:∀ i h h',tn i h->(∀ b∈fp,∀ o,h.get? b=some o->h'.get? b=some o)->tn i h'
 item:∀ (X:Cx),X.prog=P->X.w=w->X.K=K->X.calm=true->∀ (i:Nat) (pins:List (Addr×Obj)) (s:Shared) (σ:St) (H:Hp) (E:Value->Shared->Prop),Inv X pins σ H s->(∀ b∈fp,FpOk X pins H b)->tn i s.heap->J.go i H->
  wpAny (model P w) X.A (pyNext (.ref it)) (fun r s1=>∃ u,r=some u/\
   wpAny (model P w) X.A (letOwnedTupleGo tg (.ref it) u) (fun _ s2=>∃ x H',Inv X pins σ H' s2/\RelV x u/\J.yld i H x H'/\tn (i+1) s2.heap/\∀ b∈fp,H' b=none) E s1) E s
 done:∀ (X:Cx),X.prog=P->X.w=w->X.K=K->X.calm=true->∀ (i:Nat) (pins:List (Addr×Obj)) (s:Shared) (σ:St) (H:Hp) (E:Value->Shared->Prop),Inv X pins σ H s->(∀ b∈fp,FpOk X pins H b)->tn i s.heap->J.stop i H->
  wpAny (model P w) X.A (pyNext (.ref it)) (fun r s1=>r=none/\Inv X pins σ H s1) E s
 self:∀ (A:Around) (i:Nat) (s:Shared) (Q:Value->Shared->Prop) (E:Value->Shared->Prop),tn i s.heap->Q (.ref it) s->wpAny (model P w) A (pyIter (.ref it)) Q E s
abbrev TI:=St->Hp->(It->Hp->Prop)->Prop
def PIE (X:Cx) (pins:List (Addr×Obj)) (σ:St) (tg:Expr) (R:It->Hp->Prop) (itv:Value) (s2:Shared):Prop:=
 ∃ (it:Addr) (fp:List Addr) (tn:Nat->Heap->Prop) (J:It) (H':Hp),itv=.ref it/\Inv X pins σ H' s2/\Turn X.prog X.w X.K tg J fp it tn/\tn 0 s2.heap/\(∀ b∈fp,FpOk X pins H' b)/\R J H'
def PI (X:Cx) (tg iter:Expr) (wi:TI):Prop:=
 ∀ (pins:List (Addr×Obj)) (s:Shared) (σ:St) (H:Hp) (R:It->Hp->Prop),Inv X pins σ H s->wi σ H R->
   wpAny (model X.prog X.w) X.A (eval iter X.env) (fun v s1=>wpAny (model X.prog X.w) X.A (pyIter v) (PIE X pins σ tg R) X.xe s1) X.xe s
theorem go_of {M:Model} {A:Around} {E:Value->Shared->Prop} {s:Shared} {tg:Expr} {it:Addr} {u:Value} {o:Obj} {n:String} {vs:Array Value} {Q:Unit->Shared->Prop} (ho:s.heap.get? it=some o) (hc:o.cls=.type n) (hd:o.data=.fields vs)
 (hn:["enumerate","zip","dict_itemiterator","dict_reverseitemiterator","odict_iterator","itertools.zip_longest","itertools.pairwise"].contains n=false) (hQ:Q () s):wpAny M A (letOwnedTupleGo tg (.ref it) u) Q E s:=by
 unfold letOwnedTupleGo
 cases tg <;> first
  |exact wpAny_pure hQ
  |(cases u <;> first
   |exact wpAny_pure hQ
   | (refine wpAny_bind (wpAny_load ho ?_)
      rw [hc,hd]
      show wpAny M A (if (["enumerate","zip","dict_itemiterator","dict_reverseitemiterator","odict_iterator","itertools.zip_longest","itertools.pairwise"].contains n && vs[0]? == some (rawInt _))=true then _ else _) Q E s
      rw [if_neg (by intro h;rw [hn,Bool.false_and] at h;cases h)]
      exact wpAny_pure hQ))
def Itl (K:PySem.W.Frag) (a:Addr):It:=
 ⟨fun i H=>∃ xs x,SqL K H a xs/\xs[i]?=some x,fun i H x H'=>H'=H/\∀ xs,SqL K H a xs->xs[i]?=some x,fun i H=>∃ xs,SqL K H a xs/\xs.length≤i⟩
def Itt (K:PySem.W.Frag) (a:Addr):It:=
 ⟨fun i H=>∃ xs x,SqT K H a xs/\xs[i]?=some x,fun i H x H'=>H'=H/\∀ xs,SqT K H a xs->xs[i]?=some x,fun i H=>∃ xs,SqT K H a xs/\xs.length≤i⟩
def Itr (lo:Int) (n:Nat):It:=⟨fun i _=>i<n,fun i H x H'=>H'=H/\x=.int (lo+i),fun i _=>n≤i⟩
theorem turn_list {P:Program} {w:World} {K:PySem.W.Frag} {tg:Expr} (a it:Addr):Turn P w K tg (Itl K a) [it] it (fun i h=>h.IsListIter it a i) where
 mem:=by simp
 obj:=fun i h st b hb=>by
  have e:b=it:=by simpa using hb
  subst e
  obtain ⟨o,e,c,d⟩:=st
  exact ⟨o,e,fun v z=>by rw [d] at z;cases z⟩
 keep:=fun i h h' st k=>st.at fun o e=>k it (by simp) o e
 item:=by
  intro X hP hw hK hc i pins s σ H E I hf st hg
  subst hP hw hK
  obtain ⟨xs,x,hq,hx⟩:=hg
  obtain ⟨its,rv,p,hz⟩:=I.list hq
  obtain ⟨u,hu,ru⟩:=rv.get hx
  obtain ⟨f0,f1,f2,f3,f4,f5⟩:=hf it (by simp)
  refine wpAny_pyNext_list_item st p.isList (x:=u) (by simpa using hu) fun h' st' sb=>?_
  have I1:Inv X pins σ H { s with heap:=h' }:=I.turned (t':=s.toks) (fun b o hb e=>(sb.2 b hb).trans e) f0 f1 f3 f4 f5
  obtain ⟨o,e,c,d⟩:=id st'
  exact ⟨u,rfl,go_of (s:={ s with heap:=h' }) e c d (by decide) ⟨x,H,I1,ru,⟨rfl,fun ys hy=>by rw [I.list_inj hy hq];exact hx⟩,st',fun b hb=>(hf b hb).1⟩⟩
 done:=by
  intro X hP hw hK hc i pins s σ H E I hf st hg
  subst hP hw hK
  obtain ⟨xs,hq,hx⟩:=hg
  obtain ⟨its,rv,p,hz⟩:=I.list hq
  obtain ⟨f0,f1,f2,f3,f4,f5⟩:=hf it (by simp)
  have hl:=rv.length
  exact wpAny_pyNext_list_end (I.ok.hd hc) st p.isList (by simp;omega) fun h' eb=>⟨rfl,I.turned (t':=s.toks) (fun b o hb e=>eb b o hb e) f0 f1 f3 f4 f5⟩
 self:=fun _ _ _ _ _ st h=>wpAny_pyIter_listiter st h
theorem turn_tuple {P:Program} {w:World} {K:PySem.W.Frag} {tg:Expr} (a it:Addr):Turn P w K tg (Itt K a) [it] it (fun i h=>h.IsTupleIter it a i) where
 mem:=by simp
 obj:=fun i h st b hb=>by
  have e:b=it:=by simpa using hb
  subst e
  obtain ⟨o,e,c,d⟩:=st
  exact ⟨o,e,fun v z=>by rw [d] at z;cases z⟩
 keep:=fun i h h' st k=>st.at fun o e=>k it (by simp) o e
 item:=by
  intro X hP hw hK hc i pins s σ H E I hf st hg
  subst hP hw hK
  obtain ⟨xs,x,hq,hx⟩:=hg
  obtain ⟨its,rv,p,hz⟩:=I.tuple hq
  obtain ⟨u,hu,ru⟩:=rv.get hx
  obtain ⟨f0,f1,f2,f3,f4,f5⟩:=hf it (by simp)
  refine wpAny_pyNext_tuple_item st (show s.heap.IsTuple a its.toArray from p) (x:=u) (by simpa using hu) fun h' st' sb=>?_
  have I1:Inv X pins σ H { s with heap:=h' }:=I.turned (t':=s.toks) (fun b o hb e=>(sb.2 b hb).trans e) f0 f1 f3 f4 f5
  obtain ⟨o,e,c,d⟩:=id st'
  exact ⟨u,rfl,go_of (s:={ s with heap:=h' }) e c d (by decide) ⟨x,H,I1,ru,⟨rfl,fun ys hy=>by rw [I.tuple_inj hy hq];exact hx⟩,st',fun b hb=>(hf b hb).1⟩⟩
 done:=by
  intro X hP hw hK hc i pins s σ H E I hf st hg
  subst hP hw hK
  obtain ⟨xs,hq,hx⟩:=hg
  obtain ⟨its,rv,p,hz⟩:=I.tuple hq
  obtain ⟨f0,f1,f2,f3,f4,f5⟩:=hf it (by simp)
  have hl:=rv.length
  exact wpAny_pyNext_tuple_end (I.ok.hd hc) st (show s.heap.IsTuple a its.toArray from p) (by simp;omega) fun h' eb=>⟨rfl,I.turned (t':=s.toks) (fun b o hb e=>eb b o hb e) f0 f1 f3 f4 f5⟩
 self:=fun _ _ _ _ _ st h=>wpAny_pyIter_tupleiter st h
theorem turn_range {P:Program} {w:World} {K:PySem.W.Frag} {tg:Expr} (it:Addr) (lo:Int) (n:Nat):Turn P w K tg (Itr lo n) [it] it (fun i h=>IsRangeIter h it (lo+(i:Nat)*1) ((n:Int)-(i:Nat)) 1) where
 mem:=by simp
 obj:=fun i h st b hb=>by
  have e:b=it:=by simpa using hb
  subst e
  exact ⟨_,st,fun v z=>by
   have z':Data.fields _=Data.cell v:=z
   cases z'⟩
 keep:=fun i h h' st k=>k it (by simp) _ st
 item:=by
  intro X hP hw hK hc i pins s σ H E I hf st hg
  subst hP hw hK
  obtain ⟨f0,f1,f2,f3,f4,f5⟩:=hf it (by simp)
  have W:=Walks.range (prog:=X.prog) (w:=X.w) (I.ok.hd hc) it lo 1 n
  refine W.item i s _ _ hg st fun v h' tk hv st' kk=>?_
  obtain ⟨t,rfl⟩:=hv
  have I1:Inv X pins σ H { s with heap:=h',toks:=tk }:=I.turned (fun b o hb e=>kk b o (by simpa using hb) e) f0 f1 f3 f4 f5
  refine ⟨_,rfl,go_of (s:={ s with heap:=h',toks:=tk }) (n:="range_iterator") st' rfl rfl (by decide) ⟨.int (lo+i),H,I1,⟨t,?_⟩,⟨rfl,rfl⟩,st',fun b hb=>(hf b hb).1⟩⟩
  rw [Int.mul_one]
 done:=by
  intro X hP hw hK hc i pins s σ H E I hf st hg
  subst hP hw hK
  obtain ⟨f0,f1,f2,f3,f4,f5⟩:=hf it (by simp)
  exact wpAny_pyNext_range_end (I.ok.hd hc) st (by have:n≤i:=hg;omega) fun h' eb=>⟨rfl,I.turned (t':=s.toks) (fun b o hb e=>eb b o hb e) f0 f1 f3 f4 f5⟩
 self:=fun _ _ _ _ _ st h=>wpAny_pyIter_rangeiter st h
section
variable {X:Cx} {tg:Expr}
def iList (K:PySem.W.Frag) (tl:TE):TI:=fun σ H R=>tl σ H fun x H1=>∃ a,x=.ref a/\(∃ xs,SqL K H1 a xs)/\R (Itl K a) H1
def iTup (K:PySem.W.Frag) (tl:TE):TI:=fun σ H R=>tl σ H fun x H1=>∃ a,x=.ref a/\(∃ xs,SqT K H1 a xs)/\R (Itt K a) H1
theorem pi_list {l:Expr} {tl:TE} (hl:PE X l tl):PI X tg l (iList X.K tl):=by
 intro pins s σ H R I h
 refine thn (hl pins s σ H _ I h) fun v s1 ⟨x,H1,I1,r1,q1⟩=>?_
 obtain ⟨a,e,⟨xs,hq⟩,q⟩:=q1
 subst e
 cases r1
 obtain ⟨its,rv,p,hz⟩:=I1.list hq
 refine wpAny_pyIter_list p.isList ?_
 refine ⟨s1.heap.objs.size,[s1.heap.objs.size],_,_,H1,rfl,I1.kept (t':=s1.toks) fun b o e=>Heap.get?_push_of_some _ e,turn_list a _,⟨_,Heap.get?_push_size _ rfl,rfl,rfl⟩,fun b hb=>?_,q⟩
 have e:b=s1.heap.objs.size:=by simpa using hb
 subst e
 exact I1.fpOk (Nat.le_refl _) (I1.hok.fresh (Nat.le_refl _))
theorem pi_tup {l:Expr} {tl:TE} (hl:PE X l tl):PI X tg l (iTup X.K tl):=by
 intro pins s σ H R I h
 refine thn (hl pins s σ H _ I h) fun v s1 ⟨x,H1,I1,r1,q1⟩=>?_
 obtain ⟨a,e,⟨xs,hq⟩,q⟩:=q1
 subst e
 cases r1
 obtain ⟨its,rv,p,hz⟩:=I1.tuple hq
 refine wpAny_pyIter_tuple (show s1.heap.IsTuple a its.toArray from p) ?_
 refine ⟨s1.heap.objs.size,[s1.heap.objs.size],_,_,H1,rfl,I1.kept (t':=s1.toks) fun b o e=>Heap.get?_push_of_some _ e,turn_tuple a _,⟨_,Heap.get?_push_size _ rfl,rfl,rfl⟩,fun b hb=>?_,q⟩
 have e:b=s1.heap.objs.size:=by simpa using hb
 subst e
 exact I1.fpOk (Nat.le_refl _) (I1.hok.fresh (Nat.le_refl _))
theorem range_it {pins:List (Addr×Obj)} {σ:St} {H:Hp} {s:Shared} {R:It->Hp->Prop} {E:Value->Shared->Prop} {lo hi:Int} {t u v:Tok} {tk:Nat} (I:Inv X pins σ H s) (h1:-(2 ^ 62)≤lo) (h2:lo<2 ^ 62) (h3:-(2 ^ 62)≤hi) (h4:hi<2 ^ 62)
 (q:R (Itr lo (hi-lo).toNat) H):wpAny (model X.prog X.w) X.A (pyIter (.ref s.heap.objs.size)) (PIE X pins σ tg R) E { s with heap:=s.heap.push { cls:=.type "range",data:=.fields #[.int lo t,.int hi u,.int 1 v] },toks:=tk }:=by
 refine wpAny_pyIter_range (IsRange.new ..) (small_one h1 h2 h3 h4) ?_
 have I1:Inv X pins σ H { s with heap:=s.heap.push { cls:=.type "range",data:=.fields #[.int lo t,.int hi u,.int 1 v] },toks:=tk }:=I.kept fun b o e=>Heap.get?_push_of_some _ e
 refine ⟨(s.heap.push { cls:=.type "range",data:=.fields #[.int lo t,.int hi u,.int 1 v] }).objs.size,[(s.heap.push { cls:=.type "range",data:=.fields #[.int lo t,.int hi u,.int 1 v] }).objs.size],_,_,H,rfl,
  I1.kept (t':=tk) fun b o e=>Heap.get?_push_of_some _ e,turn_range _ lo (hi-lo).toNat,?_,fun b hb=>?_,q⟩
 ·have e1:lo+((0:Nat):Int)*1=lo:=by simp
  have e2:(((hi-lo).toNat:Nat):Int)-((0:Nat):Int)=Builtin.Range.rangeSize lo hi 1:=by rw [rangeSize_one];split <;> omega
  show IsRangeIter _ _ (lo+((0:Nat):Int)*1) ((((hi-lo).toNat:Nat):Int)-((0:Nat):Int)) 1
  rw [e1,e2]
  exact Heap.get?_push_size _ rfl
 ·have e:b=(s.heap.push { cls:=.type "range",data:=.fields #[.int lo t,.int hi u,.int 1 v] }).objs.size:=by simpa using hb
  subst e
  exact I1.fpOk (Nat.le_refl _) (I1.hok.fresh (Nat.le_refl _))
def iRng1 (ta:TA):TI:=fun σ H R=>ta σ H fun vs H1=>∃ j:Int,vs=[.int j]/\-(2 ^ 62)≤j/\j<2 ^ 62/\R (Itr 0 j.toNat) H1
theorem pi_range1 {a:Expr} {ta:TA} {p pos:Pos} (hg:Gl X "range") (hm:X.mg "range" = none) (ha:PA X [a] ta) (hs:starEach [a] X.env=[(false,eval a X.env)]:=by rfl):PI X tg (.Call (.Name "range" p) [a] [] pos) (iRng1 ta):=by
 intro pins s σ H R I h
 refine Call_ (ld_blt I hg hm boot_range (PyProof.Rows.callWith_type1 (thn (ha pos pins s σ H _ I h) fun us s1 ⟨vs,H1,I1,r1,q1⟩=>?_) hs rfl))
 obtain ⟨j,e,q1,q2,q⟩:=q1
 subst e
 cases r1 with
 | cons r rr=>
   cases rr
   obtain ⟨t,rfl⟩:=r
   exact call_range_1 (range_it I1 (by omega) (by omega) q1 q2 (by simpa using q))
def tFor (wi:TI) (g:TG) (tb:TS):TS:=fun D σ H=>wi σ H fun J H1=>∃ W:Nat->Nat->St->Hp->Prop,(∃ m,W 0 m σ H1)/\∀ i m σ H,W i m σ H->
 (J.stop i H/\D.nx σ H)∨(J.go i H/\∃ N:St->Hp->Prop,(∀ σ' H',N σ' H'->∃ m',m'<m/\W (i+1) m' σ' H')/\∀ x H',J.yld i H x H'->g x σ H' fun σ2 H2=>tb { D with nx:=N,ct:=N,bk:=D.nx } σ2 H2)
def pinsAt (fp:List Addr) (h:Heap):List (Addr×Obj):=fp.filterMap fun b=>(h.get? b).map fun o=>(b,o)
theorem mem_pinsAt {fp:List Addr} {h:Heap} {b:Addr} {o:Obj} (hb:b∈fp) (e:h.get? b=some o):(b,o)∈pinsAt fp h:=List.mem_filterMap.mpr ⟨b,hb,by rw [e];rfl⟩
theorem of_pinsAt {fp:List Addr} {h:Heap} {p:Addr×Obj} (hp:p∈pinsAt fp h):p.1∈fp/\h.get? p.1=some p.2:=by
 obtain ⟨b,hb,e⟩:=List.mem_filterMap.mp hp
 cases q:h.get? b with
 |none=>rw [q] at e;cases e
 | some o=>
   rw [q] at e
   have e':(b,o)=p:=Option.some.inj e
   subst e'
   exact ⟨hb,q⟩
theorem Inv.pinned {pins:List (Addr×Obj)} {σ:St} {H:Hp} {s:Shared} {fp:List Addr} (I:Inv X pins σ H s) (hf:∀ b∈fp,FpOk X pins H b) (ho:∀ b∈fp,∃ o,s.heap.get? b=some o/\∀ v,o.data≠.cell v):Inv X (pins++pinsAt fp s.heap) σ H s:=
 I.pins_of fun p hp=>(List.mem_append.mp hp).elim (fun z=>I.pin p (List.mem_append_right _ z)) fun z=>by
  obtain ⟨hb,e⟩:=of_pinsAt z
  obtain ⟨f0,f1,f2,_⟩:=hf p.1 hb
  obtain ⟨o,e',d⟩:=ho p.1 hb
  rw [e] at e';cases e'
  exact ⟨e,f0,f1,f2,d⟩
theorem Inv.unpinned {pins pl:List (Addr×Obj)} {σ:St} {H:Hp} {s:Shared} (I:Inv X (pins++pl) σ H s):Inv X pins σ H s:=I.pins_of fun p hp=>I.pin p (List.mem_append_right _ (List.mem_append_left _ hp))
theorem ps_for {iter:Expr} {body:List Stmt} {wi:TI} {g:TG} {tb:TS} {pos:Pos} (hp:PassesOwn (model X.prog X.w) X.A X.env X.xe) (hc:X.calm=true) (hi:PI X tg iter wi) (hg:PG X tg g) (hb:PSs X body tb)
 (hs:∀ x,foldedSetIterable iter X.env x=pure x:=by intro _;rfl):PS X (.For tg iter body [] pos) (tFor wi g tb):=by
 intro pins s σ H D I h
 refine wpAny_For (thn (hi pins s σ H _ I h) fun v s1 h1=>thn h1 fun itv s2 h2=>?_) hs
 obtain ⟨it,fp,tn,J,H2,e,I2,T,st2,f2,W,⟨m0,w0⟩,turn⟩:=h2
 subst e
 have stat:∀ {H':Hp},(∀ b∈fp,H' b=none)->∀ b∈fp,FpOk X pins H' b:=fun hn b hb=>⟨hn b hb,(f2 b hb).2⟩
 refine codeAny_forLoop_any (fun n s'=>∃ i σ' H',Inv X pins σ' H' s'/\tn i s'.heap/\(∀ b∈fp,H' b=none)/\W i n σ' H') ?_ m0 ⟨0,σ,H2,I2,st2,fun b hb=>(f2 b hb).1,w0⟩
 rintro n s3 ⟨i,σ3,H3,I3,st3,fr3,w3⟩
 rcases turn i n σ3 H3 w3 with ⟨stop,qn⟩|⟨go,N,hN,step⟩
 ·refine wpAny_passesOwn hp (thn (T.done X rfl rfl rfl hc i pins s3 σ3 H3 X.xe I3 (stat fr3) st3 stop) fun r s4 ⟨hr,I4⟩=>?_)
  subst hr
  exact wpAny_execs_nil ⟨σ3,H3,I4,qn⟩
 ·refine wpAny_passesOwn hp (thn (T.item X rfl rfl rfl hc i pins s3 σ3 H3 X.xe I3 (stat fr3) st3 go) fun r s4 ⟨u,hr,h4⟩=>?_)
  subst hr
  refine wpAny_passesOwn hp (thn h4 fun _ s5 ⟨x,H5,I5,r5,y5,st5,fr5⟩=>?_)
  have I5':=I5.pinned (stat fr5) (T.obj _ _ st5)
  refine wpAny_passesOwn hp (thn (hg _ s5 σ3 H5 x u _ I5' r5 (step x H5 y5)) fun _ s6 ⟨σ6,H6,I6,q6⟩=>?_)
  refine wpAny_passesOwn hp (thn (hb _ s6 σ6 H6 _ I6 q6) fun f s7 q7=>?_)
  have again:∀ {σ7:St} {H7:Hp},Inv X (pins++pinsAt fp s5.heap) σ7 H7 s7->N σ7 H7->∃ m,m<n/\∃ i σ' H',Inv X pins σ' H' s7/\tn i s7.heap/\(∀ b∈fp,H' b=none)/\W i m σ' H':=fun {σ7 H7} I7 n7=>by
   obtain ⟨m',hm,w7⟩:=hN σ7 H7 n7
   refine ⟨m',hm,i+1,σ7,H7,I7.unpinned,T.keep _ _ _ st5 fun b hb o e=>(I7.pin (b,o) (List.mem_append_right _ (List.mem_append_right _ (mem_pinsAt hb e)))).1,fun b hb=>?_,w7⟩
   obtain ⟨o,e,d⟩:=T.obj _ _ st5 b hb
   exact (I7.pin (b,o) (List.mem_append_right _ (List.mem_append_right _ (mem_pinsAt hb e)))).2.1
  cases f with
  |next=>obtain ⟨σ7,H7,I7,n7⟩:=q7;exact again I7 n7
  |cont=>obtain ⟨σ7,H7,I7,n7⟩:=q7;exact again I7 n7
  |brk=>obtain ⟨σ7,H7,I7,q7⟩:=q7;exact ⟨σ7,H7,I7.unpinned,q7⟩
  |ret v=>obtain ⟨x7,σ7,H7,I7,r7,q7⟩:=q7;exact ⟨x7,σ7,H7,I7.unpinned,r7,q7⟩
end
theorem for_list {K:PySem.W.Frag} {a:Addr} {xs:List V} {g:TG} {tb:TS} {D:Ends} {σ:St} {H:Hp} (Pv:Nat->St->Hp->Prop) (h0:Pv 0 σ H) (hl:∀ i σ H,i≤xs.length->Pv i σ H->SqL K H a xs)
 (hs:∀ i x σ H,xs[i]?=some x->Pv i σ H->g x σ H fun σ2 H2=>tb { D with nx:=Pv (i+1),ct:=Pv (i+1),bk:=D.nx } σ2 H2) (hd:∀ σ H,Pv xs.length σ H->D.nx σ H) :
 ∃ W:Nat->Nat->St->Hp->Prop,(∃ m,W 0 m σ H)/\∀ i m σ H,W i m σ H->
   ((Itl K a).stop i H/\D.nx σ H)∨((Itl K a).go i H/\∃ N:St->Hp->Prop,(∀ σ' H',N σ' H'->∃ m',m'<m/\W (i+1) m' σ' H')/\∀ x H',(Itl K a).yld i H x H'->g x σ H' fun σ2 H2=>tb { D with nx:=N,ct:=N,bk:=D.nx } σ2 H2):=by
 refine ⟨fun i m σ H=>m=xs.length-i/\i≤xs.length/\Pv i σ H,⟨xs.length,by simp,Nat.zero_le _,h0⟩,?_⟩
 rintro i m σ H ⟨rfl,hi,p⟩
 have q:=hl i σ H hi p
 by_cases hlt:i<xs.length
 ·refine .inr ⟨⟨xs,xs[i],q,by simp [hlt]⟩,Pv (i+1),fun σ' H' p'=>⟨xs.length-(i+1),by omega,rfl,hlt,p'⟩,fun x H' y=>?_⟩
  obtain ⟨e,y⟩:=y
  subst e
  exact hs i x σ _ (y xs q) p
 ·have e:i=xs.length:=by omega
  subst e
  exact .inl ⟨⟨xs,q,Nat.le_refl _⟩,hd σ H p⟩
theorem for_tup {K:PySem.W.Frag} {a:Addr} {xs:List V} {g:TG} {tb:TS} {D:Ends} {σ:St} {H:Hp} (Pv:Nat->St->Hp->Prop) (h0:Pv 0 σ H) (hl:∀ i σ H,i≤xs.length->Pv i σ H->SqT K H a xs)
 (hs:∀ i x σ H,xs[i]?=some x->Pv i σ H->g x σ H fun σ2 H2=>tb { D with nx:=Pv (i+1),ct:=Pv (i+1),bk:=D.nx } σ2 H2) (hd:∀ σ H,Pv xs.length σ H->D.nx σ H) :
 ∃ W:Nat->Nat->St->Hp->Prop,(∃ m,W 0 m σ H)/\∀ i m σ H,W i m σ H->
   ((Itt K a).stop i H/\D.nx σ H)∨((Itt K a).go i H/\∃ N:St->Hp->Prop,(∀ σ' H',N σ' H'->∃ m',m'<m/\W (i+1) m' σ' H')/\∀ x H',(Itt K a).yld i H x H'->g x σ H' fun σ2 H2=>tb { D with nx:=N,ct:=N,bk:=D.nx } σ2 H2):=by
 refine ⟨fun i m σ H=>m=xs.length-i/\i≤xs.length/\Pv i σ H,⟨xs.length,by simp,Nat.zero_le _,h0⟩,?_⟩
 rintro i m σ H ⟨rfl,hi,p⟩
 have q:=hl i σ H hi p
 by_cases hlt:i<xs.length
 ·refine .inr ⟨⟨xs,xs[i],q,by simp [hlt]⟩,Pv (i+1),fun σ' H' p'=>⟨xs.length-(i+1),by omega,rfl,hlt,p'⟩,fun x H' y=>?_⟩
  obtain ⟨e,y⟩:=y
  subst e
  exact hs i x σ _ (y xs q) p
 ·have e:i=xs.length:=by omega
  subst e
  exact .inl ⟨⟨xs,q,Nat.le_refl _⟩,hd σ H p⟩
theorem for_range {lo:Int} {n:Nat} {g:TG} {tb:TS} {D:Ends} {σ:St} {H:Hp} (Pv:Nat->St->Hp->Prop) (h0:Pv 0 σ H)
 (hs:∀ i σ H,i<n->Pv i σ H->g (.int (lo+i)) σ H fun σ2 H2=>tb { D with nx:=Pv (i+1),ct:=Pv (i+1),bk:=D.nx } σ2 H2) (hd:∀ σ H,Pv n σ H->D.nx σ H) :
 ∃ W:Nat->Nat->St->Hp->Prop,(∃ m,W 0 m σ H)/\∀ i m σ H,W i m σ H->
   ((Itr lo n).stop i H/\D.nx σ H)∨((Itr lo n).go i H/\∃ N:St->Hp->Prop,(∀ σ' H',N σ' H'->∃ m',m'<m/\W (i+1) m' σ' H')/\∀ x H',(Itr lo n).yld i H x H'->g x σ H' fun σ2 H2=>tb { D with nx:=N,ct:=N,bk:=D.nx } σ2 H2):=by
 refine ⟨fun i m σ H=>m=n-i/\i≤n/\Pv i σ H,⟨n,by simp,Nat.zero_le _,h0⟩,?_⟩
 rintro i m σ H ⟨rfl,hi,p⟩
 by_cases hlt:i<n
 ·refine .inr ⟨hlt,Pv (i+1),fun σ' H' p'=>⟨n-(i+1),by omega,rfl,hlt,p'⟩,fun x H' y=>?_⟩
  obtain ⟨e,y⟩:=y
  subst e y
  exact hs i σ _ hlt p
 ·have e:i=n:=by omega
  subst e
  exact .inl ⟨Nat.le_refl _,hd σ H p⟩
theorem while_by {c:TT} {tb:TS} {D:Ends} {σ:St} {H:Hp} (Pv:St->Hp->Prop) (μ:St->Hp->Nat) (h0:Pv σ H)
 (hs:∀ σ H,Pv σ H->c σ H fun b H1=>if b=true then tb { D with nx:=fun σ' H'=>Pv σ' H'/\μ σ' H'<μ σ H,ct:=fun σ' H'=>Pv σ' H'/\μ σ' H'<μ σ H,bk:=D.nx } σ H1 else D.nx σ H1)
 (mono:∀ σ H Q Q',(∀ b H1,Q b H1->Q' b H1)->c σ H Q->c σ H Q'):tWhile c tb D σ H:=by
 refine ⟨fun m σ H=>m=μ σ H/\Pv σ H,⟨_,rfl,h0⟩,?_⟩
 rintro m σ H ⟨rfl,p⟩
 refine mono σ H _ _ (fun b H1 q=>?_) (hs σ H p)
 cases b with
 |true=>exact ⟨_,fun σ' H' ⟨p',l⟩=>⟨_,l,rfl,p'⟩,q⟩
 |false=>exact q
abbrev R2:=V->V->Hp->VK->Prop
def OpR (X:Cx) (f:Value->Value->Sem Value) (r:R2):Prop:=
 ∀ (pins:List (Addr×Obj)) (s:Shared) (σ:St) (H:Hp) (x y:V) (v u:Value) (Q:VK),Inv X pins σ H s->RelV x v->RelV y u->r x y H Q->
   wpAny (model X.prog X.w) X.A (f v u) (EP X pins σ Q) X.xe s
def UnR (X:Cx) (f:Value->Sem Value) (r:V->Hp->VK->Prop):Prop:=
 ∀ (pins:List (Addr×Obj)) (s:Shared) (σ:St) (H:Hp) (x:V) (v:Value) (Q:VK),Inv X pins σ H s->RelV x v->r x H Q->
   wpAny (model X.prog X.w) X.A (f v) (EP X pins σ Q) X.xe s
def CallR (X:Cx) (f:Value) (r:List V->Hp->VK->Prop):Prop:=
 ∀ (pins:List (Addr×Obj)) (s:Shared) (σ:St) (H:Hp) (xs:List V) (us:List Value) (Q:VK),Inv X pins σ H s->Vals xs us->r xs H Q->
   wpAny (model X.prog X.w) X.A (call f us) (EP X pins σ Q) X.xe s
def TruR (X:Cx) (r:V->Hp->(Bool->Hp->Prop)->Prop):Prop:=
 ∀ (pins:List (Addr×Obj)) (s:Shared) (σ:St) (H:Hp) (x:V) (v:Value) (Q:Bool->Hp->Prop),Inv X pins σ H s->RelV x v->r x H Q->
   wpAny (model X.prog X.w) X.A (truthy v) (TP X pins σ Q) X.xe s
def tOp (r:R2) (ta tb:TE):TE:=fun σ H Q=>ta σ H fun x H1=>tb σ H1 fun y H2=>r x y H2 Q
def tUn (r:V->Hp->VK->Prop) (ta:TE):TE:=fun σ H Q=>ta σ H fun x H1=>r x H1 Q
def rI (C:Int->Int->Prop) (g:Int->Int->V):R2:=fun x y H Q=>∃ i j,x=.int i/\y=.int j/\C i j/\Q (g i j) H
def rI0 (g:Int->Int->V):R2:=fun x y H Q=>∃ i j,x=.int i/\y=.int j/\Q (g i j) H
def rU (g:Int->V):V->Hp->VK->Prop:=fun x H Q=>∃ i,x=.int i/\Q (g i) H
section
variable {X:Cx} {a b c:Expr} {ta tb tc:TE} {pos:Pos}
theorem binT (ha:PE X a ta) (hb:PE X b tb) {pins:List (Addr×Obj)} {s:Shared} {σ:St} {H:Hp} {R:V->V->Hp->Prop} (I:Inv X pins σ H s)
 (h:ta σ H fun x H1=>tb σ H1 fun y H2=>R x y H2) {Q:Value->Shared->Prop} {f:Value->Value->Sem Value}
 (hf:∀ v u s2 x y H2,Inv X pins σ H2 s2->RelV x v->RelV y u->R x y H2->wpAny (model X.prog X.w) X.A (f v u) Q X.xe s2) :
 wpAny (model X.prog X.w) X.A (eval a X.env) (fun v s₁=>wpAny (model X.prog X.w) X.A (eval b X.env) (fun u s₂=>wpAny (model X.prog X.w) X.A (f v u) Q X.xe s₂) X.xe s₁) X.xe s:=by
 refine thn (ha pins s σ H _ I h) fun v s1 ⟨x,H1,I1,r1,q1⟩=>?_
 refine thn (hb pins s1 σ H1 _ I1 q1) fun u s2 ⟨y,H2,I2,r2,q2⟩=>?_
 exact hf v u s2 x y H2 I2 r1 r2 q2
theorem pe_op {op:Operator} {r:R2} (ho:OpR X (binaryOp op) r) (ha:PE X a ta) (hb:PE X b tb):PE X (.BinOp a op b pos) (tOp r ta tb):=by
 intro pins s σ H Q I h
 exact wpAny_BinOp (binT ha hb I h fun v u s2 x y H2 I2 rx ry q=>ho pins s2 σ H2 x y v u Q I2 rx ry q)
theorem pe_un {op:UnaryOp} {r:V->Hp->VK->Prop} (ho:UnR X (unaryOp op) r) (ha:PE X a ta):PE X (.UnaryOp op a pos) (tUn r ta):=by
 intro pins s σ H Q I h
 exact UnaryOp_ (thn (ha pins s σ H _ I h) fun v s1 ⟨x,H1,I1,r1,q1⟩=>ho pins s1 σ H1 x v Q I1 r1 q1)
theorem opI {f:Value->Value->Sem Value} {C:Int->Int->Prop} {g:Int->Int->Int}
 (rule:∀ (i j:Int) (t u:Tok) (s:Shared) (Q:Value->Shared->Prop) (E:Value->Shared->Prop),C i j->Q (.int (g i j) s.toks) { s with toks:=s.toks+1 }->wpAny (model X.prog X.w) X.A (f (.int i t) (.int j u)) Q E s) :
 OpR X f (rI C fun i j=>.int (g i j)):=by
 intro pins s σ H x y v u Q I rx ry h
 obtain ⟨i,j,rfl,rfl,hc,q⟩:=h
 obtain ⟨t,rfl⟩:=rx
 obtain ⟨t',rfl⟩:=ry
 exact rule i j t t' s _ _ hc ⟨.int (g i j),H,I.tok _,⟨_,rfl⟩,q⟩
theorem opI0 {f:Value->Value->Sem Value} {g:Int->Int->Int}
 (rule:∀ (i j:Int) (t u:Tok) (s:Shared) (Q:Value->Shared->Prop) (E:Value->Shared->Prop),Q (.int (g i j) s.toks) { s with toks:=s.toks+1 }->wpAny (model X.prog X.w) X.A (f (.int i t) (.int j u)) Q E s) :
 OpR X f (rI0 fun i j=>.int (g i j)):=by
 intro pins s σ H x y v u Q I rx ry h
 obtain ⟨i,j,rfl,rfl,q⟩:=h
 obtain ⟨t,rfl⟩:=rx
 obtain ⟨t',rfl⟩:=ry
 exact rule i j t t' s _ _ ⟨.int (g i j),H,I.tok _,⟨_,rfl⟩,q⟩
theorem opB0 {f:Value->Value->Sem Value} {g:Int->Int->Bool}
 (rule:∀ (i j:Int) (t u:Tok) (s:Shared) (Q:Value->Shared->Prop) (E:Value->Shared->Prop),Q (.bool (g i j)) s->wpAny (model X.prog X.w) X.A (f (.int i t) (.int j u)) Q E s) :
 OpR X f (rI0 fun i j=>.bl (g i j)):=by
 intro pins s σ H x y v u Q I rx ry h
 obtain ⟨i,j,rfl,rfl,q⟩:=h
 obtain ⟨t,rfl⟩:=rx
 obtain ⟨t',rfl⟩:=ry
 exact rule i j t t' s _ _ ⟨.bl (g i j),H,I,rfl,q⟩
def CDiv (i j:Int):Prop:=0<j/\j<1073741824
def CPow (i j:Int):Prop:=0≤j/\j≤1000000/\i.natAbs<2 ^ 64
def CMul (i j:Int):Prop:=(-(2 ^ 64)<i/\i<2 ^ 64)∨(-(2 ^ 64)<j/\j<2 ^ 64)
theorem CMul.ok {i j:Int} (h:CMul i j):IntMulOk i j:=by
 rcases h with ⟨h1,h2⟩|⟨h1,h2⟩
 ·exact .of_left (intBits_le_64 h1 h2)
 ·exact .of_right (intBits_le_64 h1 h2)
theorem op_add:OpR X (binaryOp .Add) (rI0 fun i j=>.int (i+j)):=opI0 fun _ _ _ _ _ _ _ q=>add_int q
theorem op_sub:OpR X (binaryOp .Sub) (rI0 fun i j=>.int (i-j)):=opI0 fun _ _ _ _ _ _ _ q=>sub_int q
theorem op_mul:OpR X (binaryOp .Mult) (rI CMul fun i j=>.int (i*j)):=opI fun _ _ _ _ _ _ _ hc q=>mul_int q hc.ok
theorem op_fdiv:OpR X (binaryOp .FloorDiv) (rI CDiv fun i j=>.int (i / j)):=opI fun i j _ _ _ _ _ hc q=>by
 have h1:(0:Int)<j:=hc.1
 have h2:j<1073741824:=hc.2
 exact floordiv_int (by omega) (by rw [Int.fdiv_eq_ediv_of_nonneg i (by omega)];exact q) (.inl (PyProof.noPylong_small (by omega)))
theorem op_mod:OpR X (binaryOp .Mod) (rI (fun _ j=>0<j) fun i j=>.int (i % j)):=opI fun i j _ _ _ _ _ hc q=>by
 have h1:(0:Int)<j:=hc
 exact mod_int' (by omega) (by rw [Int.fmod_eq_emod_of_nonneg i (by omega)];exact q)
theorem op_pow:OpR X (binaryOp .Pow) (rI CPow fun i j=>.int (i ^ j.toNat)):=opI fun _ _ _ _ _ _ _ hc q=>pow_int_small hc.1 hc.2.1 hc.2.2 q
theorem unI {f:Value->Sem Value} {g:Int->Int}
 (rule:∀ (i:Int) (t:Tok) (s:Shared) (Q:Value->Shared->Prop) (E:Value->Shared->Prop),Q (.int (g i) s.toks) { s with toks:=s.toks+1 }->wpAny (model X.prog X.w) X.A (f (.int i t)) Q E s) :
 UnR X f (rU fun i=>.int (g i)):=by
 intro pins s σ H x v Q I rx h
 obtain ⟨i,rfl,q⟩:=h
 obtain ⟨t,rfl⟩:=rx
 exact rule i t s _ _ ⟨.int (g i),H,I.tok _,⟨_,rfl⟩,q⟩
theorem un_neg:UnR X (unaryOp .USub) (rU fun i=>.int (-i)):=unI fun _ _ _ _ _ q=>neg_int q
end
def scal:V->V->Bool
 |.non,.non=>true|.non,.int _=>true|.int _,.non=>true|.non,.bl _=>true|.bl _,.non=>true|.non,.str _=>true|.str _,.non=>true
 |.int _,.int _=>true|.bl _,.bl _=>true|.str _,.str _=>true|.byt _,.byt _=>true
 |.int _,.str _=>true|.str _,.int _=>true|.bl _,.str _=>true|.str _,.bl _=>true
 |_,_=>false
def rEq:R2:=fun x y H Q=>scal x y=true/\Q (.bl (decide (x=y))) H
def rNe:R2:=fun x y H Q=>scal x y=true/\Q (.bl (!decide (x=y))) H
theorem dec_int {i j:Int}:decide (V.int i=V.int j)=(i == j):=by
 rw [Bool.eq_iff_iff]
 simp
theorem dec_bl {i j:Bool}:decide (V.bl i=V.bl j)=(i == j):=by
 rw [Bool.eq_iff_iff]
 simp
theorem dec_str {i j:Str}:decide (V.str i=V.str j)=(i == j):=by
 rw [Bool.eq_iff_iff]
 simp
theorem dec_byt {i j:Array UInt8}:decide (V.byt i=V.byt j)=(i.toList == j.toList):=by
 rw [Bool.eq_iff_iff]
 cases i
 cases j
 simp
section
variable {X:Cx} {a b c:Expr} {ta tb tc:TE} {pos:Pos}
theorem fin_bl {pins:List (Addr×Obj)} {σ:St} {H:Hp} {s:Shared} {Q:VK} {k k':Bool} (I:Inv X pins σ H s) (q:Q (.bl k) H) (e:k=k'):EP X pins σ Q (.bool k') s:=by
 subst e
 exact ⟨.bl k,H,I,rfl,q⟩
theorem op_eq:OpR X (compareOp .Eq) rEq:=by
 intro pins s σ H x y v u Q I rx ry h
 obtain ⟨hs,q⟩:=h
 cases x with
 | non=>
   cases rx
   cases y with
   |non=>cases ry;exact PySem.EqNone.eq_none_none (fin_bl I q (by simp))
   |bl j=>cases ry;exact PySem.EqNone.eq_none_bool (fin_bl I q (by simp))
   |int j=>obtain ⟨t',rfl⟩:=ry;exact PySem.EqNone.eq_none_int (fin_bl I q (by simp))
   |str j=>obtain ⟨t',rfl⟩:=ry;exact PySem.EqNone.eq_none_str (fin_bl I q (by simp))
   |_=>exact absurd (show false=true from hs) Bool.false_ne_true
 | bl i=>
   cases rx
   cases y with
   |non=>cases ry;exact PySem.EqNone.eq_bool_none (fin_bl I q (by simp))
   |bl j=>cases ry;exact eq_bool (fin_bl I q dec_bl)
   |str j=>obtain ⟨t',rfl⟩:=ry;exact PySem.EqMixed.eq_bool_str (fin_bl I q (by simp))
   |_=>exact absurd (show false=true from hs) Bool.false_ne_true
 | int i=>
   obtain ⟨t,rfl⟩:=rx
   cases y with
   |non=>cases ry;exact PySem.EqNone.eq_int_none (fin_bl I q (by simp))
   |int j=>obtain ⟨t',rfl⟩:=ry;exact eq_int (fin_bl I q dec_int)
   |str j=>obtain ⟨t',rfl⟩:=ry;exact PySem.EqMixed.eq_int_str (fin_bl I q (by simp))
   |_=>exact absurd (show false=true from hs) Bool.false_ne_true
 | str i=>
   obtain ⟨t,rfl⟩:=rx
   cases y with
   |non=>cases ry;exact PySem.EqNone.eq_str_none (fin_bl I q (by simp))
   |bl j=>cases ry;exact PySem.EqMixed.eq_str_bool (fin_bl I q (by simp))
   |int j=>obtain ⟨t',rfl⟩:=ry;exact PySem.EqMixed.eq_str_int (fin_bl I q (by simp))
   |str j=>obtain ⟨t',rfl⟩:=ry;exact eq_str (fin_bl I q dec_str)
   |_=>exact absurd (show false=true from hs) Bool.false_ne_true
 | byt i=>
   obtain ⟨t,rfl⟩:=rx
   cases y with
   |byt j=>obtain ⟨t',rfl⟩:=ry;exact PySem.W.eq_bytes (fin_bl I q dec_byt)
   |_=>exact absurd (show false=true from hs) Bool.false_ne_true
 |_=>cases y <;> exact absurd (show false=true from hs) Bool.false_ne_true
theorem op_ne:OpR X (compareOp .NotEq) rNe:=by
 intro pins s σ H x y v u Q I rx ry h
 obtain ⟨hs,q⟩:=h
 cases x with
 | non=>
   cases rx
   cases y with
   |non=>cases ry;exact PySem.EqNone.ne_none_none (fin_bl I q (by simp))
   |bl j=>cases ry;exact PySem.EqNone.ne_none_bool (fin_bl I q (by simp))
   |int j=>obtain ⟨t',rfl⟩:=ry;exact PySem.EqNone.ne_none_int (fin_bl I q (by simp))
   |str j=>obtain ⟨t',rfl⟩:=ry;exact PySem.EqNone.ne_none_str (fin_bl I q (by simp))
   |_=>exact absurd (show false=true from hs) Bool.false_ne_true
 | bl i=>
   cases rx
   cases y with
   |non=>cases ry;exact PySem.EqNone.ne_bool_none (fin_bl I q (by simp))
   |bl j=>cases ry;exact ne_bool (fin_bl I q (congrArg not dec_bl))
   |str j=>obtain ⟨t',rfl⟩:=ry;exact PySem.EqMixed.ne_bool_str (fin_bl I q (by simp))
   |_=>exact absurd (show false=true from hs) Bool.false_ne_true
 | int i=>
   obtain ⟨t,rfl⟩:=rx
   cases y with
   |non=>cases ry;exact PySem.EqNone.ne_int_none (fin_bl I q (by simp))
   |int j=>obtain ⟨t',rfl⟩:=ry;exact ne_int (fin_bl I q (congrArg not dec_int))
   |str j=>obtain ⟨t',rfl⟩:=ry;exact PySem.EqMixed.ne_int_str (fin_bl I q (by simp))
   |_=>exact absurd (show false=true from hs) Bool.false_ne_true
 | str i=>
   obtain ⟨t,rfl⟩:=rx
   cases y with
   |non=>cases ry;exact PySem.EqNone.ne_str_none (fin_bl I q (by simp))
   |bl j=>cases ry;exact PySem.EqMixed.ne_str_bool (fin_bl I q (by simp))
   |int j=>obtain ⟨t',rfl⟩:=ry;exact PySem.EqMixed.ne_str_int (fin_bl I q (by simp))
   |str j=>obtain ⟨t',rfl⟩:=ry;exact ne_str (fin_bl I q (congrArg not dec_str))
   |_=>exact absurd (show false=true from hs) Bool.false_ne_true
 | byt i=>
   obtain ⟨t,rfl⟩:=rx
   cases y with
   |byt j=>obtain ⟨t',rfl⟩:=ry;exact PySem.W.ne_bytes (fin_bl I q (congrArg not dec_byt))
   |_=>exact absurd (show false=true from hs) Bool.false_ne_true
 |_=>cases y <;> exact absurd (show false=true from hs) Bool.false_ne_true
theorem op_lt:OpR X (compareOp .Lt) (rI0 fun i j=>.bl (decide (i<j))):=opB0 fun _ _ _ _ _ _ _ q=>lt_int q
theorem op_le:OpR X (compareOp .LtE) (rI0 fun i j=>.bl (decide (i≤j))):=opB0 fun _ _ _ _ _ _ _ q=>le_int q
theorem op_gt:OpR X (compareOp .Gt) (rI0 fun i j=>.bl (decide (j<i))):=opB0 fun _ _ _ _ _ _ _ q=>gt_int q
theorem op_ge:OpR X (compareOp .GtE) (rI0 fun i j=>.bl (decide (j≤i))):=opB0 fun _ _ _ _ _ _ _ q=>ge_int q
theorem op_isN:OpR X (compareOp .Is) (fun x y H Q=>y=.non/\Q (.bl (decide (x=.non))) H):=by
 intro pins s σ H x y v u Q I rx ry h
 obtain ⟨rfl,q⟩:=h
 cases ry
 refine is_none_gen (fin_bl I q ?_)
 cases x <;> first
  |(cases rx;rfl)
  |(obtain ⟨t,rfl⟩:=rx;rfl)
theorem op_notN:OpR X (compareOp .IsNot) (fun x y H Q=>y=.non/\Q (.bl (!decide (x=.non))) H):=by
 intro pins s σ H x y v u Q I rx ry h
 obtain ⟨rfl,q⟩:=h
 cases ry
 refine isnot_none_gen (fin_bl I q ?_)
 cases x <;> first
  |(cases rx;rfl)
  |(obtain ⟨t,rfl⟩:=rx;rfl)
theorem nomark (b:Expr) {op:CmpOp} (h:op≠.In:=by decide) (h2:op≠.NotIn:=by decide):behindInMarks op b=false:=by
 have e1:(op == CmpOp.In)=false:=by cases op <;> first|rfl|exact absurd rfl h
 have e2:(op == CmpOp.NotIn)=false:=by cases op <;> first|rfl|exact absurd rfl h2
 cases b <;> simp [behindInMarks,e1,e2]
theorem pe_cmpR {op:CmpOp} {r:R2} (ho:OpR X (compareOp op) r) (ha:PE X a ta) (hb:PE X b tb) (hm:behindInMarks op b=false):PE X (.Compare a [op] [b] pos) (tOp r ta tb):=by
 intro pins s σ H Q I h
 exact wpAny_Compare1 (binT ha hb I h fun v u s2 x y H2 I2 rx ry q=>ho pins s2 σ H2 x y v u Q I2 rx ry q) hm
def tTest (t:TE):TT:=fun σ H Q=>t σ H fun x H'=>∃ k,x=.bl k/\Q k H'
theorem pt_cmpR {op:CmpOp} {r:R2} (ho:OpR X (compareOp op) r) (ha:PE X a ta) (hb:PE X b tb) (hm:behindInMarks op b=false):PT X (.Compare a [op] [b] pos) (tTest (tOp r ta tb)):=by
 intro pins s σ H Q I h
 refine wpAny_isTrue_Compare1 (thn (ha pins s σ H _ I h) fun v s1 ⟨x,H1,I1,r1,q1⟩=>thn (hb pins s1 σ H1 _ I1 q1) fun u s2 ⟨y,H2,I2,r2,q2⟩=>
  thn (ho pins s2 σ H2 x y v u _ I2 r1 r2 q2) fun c s3 ⟨z,H3,I3,r3,k,e,q3⟩=>?_) hm
 subst e
 cases r3
 exact wpAny_truthy_bool ⟨H3,I3,q3⟩
def tChain (r r':R2) (ta tb tc:TE):TE:=fun σ H Q=>ta σ H fun x H1=>tb σ H1 fun y H2=>r x y H2 fun z H3=>∃ k,z=.bl k/\
 (if k=true then tc σ H3 fun w' H4=>r' y w' H4 Q else Q (.bl false) H3)
theorem pt_chain {op op':CmpOp} {r r':R2} (ho:OpR X (compareOp op) r) (ho':OpR X (compareOp op') r') (ha:PE X a ta) (hb:PE X b tb) (hc:PE X c tc)
 (hm:lastMarks [op,op'] [b,c]=false:=by with_unfolding_all rfl):PT X (.Compare a [op,op'] [b,c] pos) (tTest (tChain r r' ta tb tc)):=by
 intro pins s σ H Q I h
 refine isTrue_chain (thn (ha pins s σ H _ I h) fun v s1 ⟨x,H1,I1,r1,q1⟩=>test_link (thn (hb pins s1 σ H1 _ I1 q1) fun u s2 ⟨y,H2,I2,r2,q2⟩=>
  thn (ho pins s2 σ H2 x y v u _ I2 r1 r2 q2) fun d s3 ⟨z,H3,I3,r3,k,e,q3⟩=>?_)) hm
 subst e
 cases r3
 refine wpAny_truthy_bool ?_
 cases k with
 | false=>
   obtain ⟨k',e',q'⟩:=q3
   cases e'
   exact ite_ff ⟨H3,I3,q'⟩
 | true=>
   refine ite_tt (test_last (thn (hc pins s3 σ H3 _ I3 q3) fun w' s4 ⟨z',H4,I4,r4,q4⟩=>thn (ho' pins s4 σ H4 y z' u w' _ I4 r2 r4 q4) fun d' s5 ⟨z2,H5,I5,r5,k2,e2,q5⟩=>?_))
   subst e2
   cases r5
   exact wpAny_truthy_bool ⟨H5,I5,q5⟩
def TruV (K:PySem.W.Frag) (x:V) (H:Hp) (k:Bool):Prop:=
 match x with
 |.non=>k=false
 |.bl b=>k=b
 |.int i=>k=(i != 0)
 |.str y=>y.length≤sizeLine/\k=((y.length:Int) != 0)
 |.byt y=>y.size≤sizeLine/\k=((y.size:Int) != 0)
 |.ref p=>(∃ xs,SqL K H p xs/\k=!xs.isEmpty)∨(∃ xs,SqT K H p xs/\k=!xs.isEmpty)∨∃ kvs,H p=some (.dK kvs)/\k=!kvs.isEmpty
 |_=>False
theorem isEmpty_kv {κ:Type} {kvs:List (κ×V)} {vs:List (κ×Value)} (r:KV kvs vs):(!vs.isEmpty)=!kvs.isEmpty:=by
 cases r <;> rfl
theorem isEmpty_of {xs:List V} {its:List Value} (r:Vals xs its):(!its.toArray.isEmpty)=!xs.isEmpty:=by
 cases r <;> simp
theorem line63:(sizeLine:Nat)<2 ^ 63:=by rw [sizeLine_eq];decide
theorem tru_ok:TruR X (fun x H Q=>∃ k,TruV X.K x H k/\Q k H):=by
 intro pins s σ H x v Q I rx h
 obtain ⟨k,e,q⟩:=h
 have hl:=line63
 have hs:sizeLine=16777216:=sizeLine_eq
 cases x with
 | non=>
   cases rx
   have e':k=false:=e
   subst e'
   exact truthy_none ⟨H,I,q⟩
 | bl b=>
   cases rx
   have e':k=b:=e
   subst e'
   exact wpAny_truthy_bool ⟨H,I,q⟩
 | int i=>
   obtain ⟨t,rfl⟩:=rx
   have e':k=(i != 0):=e
   subst e'
   exact PySem.P.truthy_int ⟨H,I,q⟩
 | str y=>
   obtain ⟨t,rfl⟩:=rx
   obtain ⟨hy,e'⟩:y.length≤sizeLine/\k=((y.length:Int) != 0):=e
   subst e'
   exact PySem.P.truthy_str (by omega) ⟨H,I.tok _,q⟩
 | byt y=>
   obtain ⟨t,rfl⟩:=rx
   obtain ⟨hy,e'⟩:y.size≤sizeLine/\k=((y.size:Int) != 0):=e
   subst e'
   exact PySem.W.truthy_bytes (by omega) ⟨H,I.tok _,q⟩
 | ref p=>
   cases rx
   have e':(∃ xs,SqL X.K H p xs/\k=!xs.isEmpty)∨(∃ xs,SqT X.K H p xs/\k=!xs.isEmpty)∨∃ kvs,H p=some (.dK kvs)/\k=!kvs.isEmpty:=e
   rcases e' with ⟨xs,hx,e'⟩|⟨xs,hx,e'⟩|⟨kvs,hx,e'⟩
   ·subst e'
    obtain ⟨its,r,pl,hz⟩:=I.list hx
    have hlen:=r.length
    exact wpAny_truthy_list pl.isList (by simp only [List.size_toArray];omega) ⟨H,I.tok _,by rw [isEmpty_of r];exact q⟩
   ·subst e'
    obtain ⟨its,r,pl,hz⟩:=I.tuple hx
    have hlen:=r.length
    exact truthy_tuple pl (by simp only [List.size_toArray];omega) ⟨H,I.tok _,by rw [isEmpty_of r];exact q⟩
   ·subst e'
    obtain ⟨hz,hS,vs,r,m⟩:kvs.length≤sizeLine/\(p == sysModules)=false/\∃ vs,KV kvs vs/\s.heap.DictOf (mixKind X.prog X.w) p vs:=I.hok p _ hx
    have hlen:kvs.length=vs.length:=Paired.length r
    exact wpAny_truthy_dict hS m (by omega) ⟨H,I.tok _,by rw [isEmpty_kv r];exact q⟩
 |_=>exact (show False from e).elim
theorem pt_truth (ha:PE X a ta) (he:∀ whole,isTrue a X.env whole=(do let v ← whole;standAt a.pos;holding [v] (truthy v))) :
 PT X a (fun σ H Q=>ta σ H fun x H'=>∃ k,TruV X.K x H' k/\Q k H'):=by
 intro pins s σ H Q I h
 exact isTrue_plain (thn (ha pins s σ H _ I h) fun v s1 ⟨x,H1,I1,r1,q1⟩=>tru_ok pins s1 σ H1 x v Q I1 r1 q1) (he _)
theorem op_add_str:OpR X (binaryOp .Add) (fun x y H Q=>∃ i j,x=.str i/\y=.str j/\i.length+j.length≤sizeLine/\Q (.str (i++j)) H):=by
 intro pins s σ H x y v u Q I rx ry h
 obtain ⟨i,j,rfl,rfl,hz,q⟩:=h
 obtain ⟨t,rfl⟩:=rx
 obtain ⟨t',rfl⟩:=ry
 exact add_str (fun t' tk=>⟨.str (i++j),H,I.tok _,⟨_,rfl⟩,q⟩) hz
theorem vals1 {x:V} {us:List Value} (r:Vals [x] us):∃ u,us=[u]/\RelV x u:=by
 cases r with
 |cons r1 r2=>cases r2;exact ⟨_,rfl,r1⟩
theorem vals2 {x y:V} {us:List Value} (r:Vals [x,y] us):∃ u w',us=[u,w']/\RelV x u/\RelV y w':=by
 cases r with
 | cons r1 r2=>
   cases r2 with
   |cons r3 r4=>cases r4;exact ⟨_,_,rfl,r1,r3⟩
theorem call_min2 (hc:X.calm=true):CallR X (.builtin "min") (fun xs H Q=>∃ i j,xs=[.int i,.int j]/\Q (.int (if j<i then j else i)) H):=by
 intro pins s σ H xs us Q I r h
 obtain ⟨i,j,rfl,q⟩:=h
 obtain ⟨u,w',rfl,⟨t,rfl⟩,⟨t',rfl⟩⟩:=vals2 r
 refine min_two_ints (I.ok.hd hc) fun h' tk k=>⟨_,H,I.kept k,?_,q⟩
 by_cases hj:j<i
 ·rw [if_pos hj,if_pos hj];exact ⟨_,rfl⟩
 ·rw [if_neg hj,if_neg hj];exact ⟨_,rfl⟩
end
structure ObjM (h:Heap) (x dx C:Addr) (mA:Str->Option Value):Prop where
 obj:h.get? x=some (PySem.W.instObj C dx)
 ns:h.Ns1 dx mA
 ne:dx≠x
theorem lookIn_ns {h:Heap} {dx:Addr} {mA:Str->Option Value} (n:h.Ns1 dx mA):∃ od,h.get? dx=some od/\∀ name,PySem.W.lookIn name od=some (mA name):=by
 obtain ⟨o,es,ep,ho,hd,hk,_,hm⟩:=n
 refine ⟨o,ho,fun name=>?_⟩
 have e:=hm name
 unfold nsFind findBy at e
 rw [← Array.find?_toList] at e
 unfold PySem.W.lookIn
 rw [hd]
 dsimp only
 split
 ·rename_i y q
  rw [q] at e
  exact congrArg some e
 ·rename_i q
  rw [q] at e
  have a:es.toList.any (·.refKey)=false:=by
   rw [List.any_eq_false]
   intro y hy
   obtain ⟨z,t,hkey⟩:=hk y (Array.mem_toList_iff.mp hy)
   simp [DictEntry.refKey,hkey]
  have a':¬ es.toList.any (·.refKey)=true:=by rw [a];exact Bool.false_ne_true
  rw [if_neg a']
  exact congrArg some e
theorem ObjM.look {h:Heap} {x dx C:Addr} {mA:Str->Option Value} (I:ObjM h x dx C mA):∃ od,PySem.W.InstAt h x (PySem.W.instObj C dx) C (some od)/\∀ name,PySem.W.lookIn name od=some (mA name):=
 let ⟨od,ho,hl⟩:=lookIn_ns I.ns
 ⟨od,⟨I.obj,rfl,rfl,ho⟩,hl⟩
section
variable {prog:Program} {w:World} {A:Around} {E:Value->Shared->Prop} {s:Shared} {K:PySem.W.Frag} {x dx C f:Addr} {mA:Str->Option Value} {name:Str} {v:Value}
theorem get_map {expr:Bool} {Q:Value->Shared->Prop} (X:K.In s.heap) (I:ObjM s.heap x dx C mA) (hg:PySem.W.plainGet K C name=true) (hh:PySem.W.hasDictIn K C=true)
 (ha:PySem.W.findIn K (.ref C) name=some none) (hv:mA name=some v) (hv':PySem.W.handedIn v=true) (h:Q v { s with toks:=s.toks+1 }) :
 wpAny (model prog w) A (getAttr (.ref x) name expr) Q E s:=by
 obtain ⟨od,J,hl⟩:=I.look
 exact PySem.W.get_value X J (PySem.W.plainGet_of hg).1 (PySem.W.findObj_own hh ha rfl (by rw [hl,hv])) hv' h
theorem get_meth {pl:Sem Bool} {Q:Value×List Value->Shared->Prop} (X:K.In s.heap) (I:ObjM s.heap x dx C mA) (hg:PySem.W.plainGet K C name=true)
 (hf:PySem.W.findIn K (.ref C) name=some (some (.ref f))) (ht:PySem.W.isFn K (.ref f)=true) (hv:mA name=none) (h:Q (.ref f,[.ref x]) s) :
 wpAny (model prog w) A (getMethod (.ref x) name pl) Q E s:=by
 obtain ⟨od,J,hl⟩:=I.look
 exact PySem.W.method_fn X J (PySem.W.plainGet_of hg).1 (PySem.W.plainGet_of hg).2 hf (beq_iff_eq.mp ht) (by show (PySem.W.lookIn name od).map (·.isSome)=some false;rw [hl,hv];rfl) h
theorem set_map {ns:List Str} {Q:Unit->Shared->Prop} (X:K.In s.heap) (I:ObjM s.heap x dx C mA)
 (hs:PySem.W.findIn K (.ref C) "__setattr__" = some (some (.builtin "object.__setattr__"))) (hp:PySem.W.plainOver K C=true) (ht:PySem.W.takerIn K C name=some none) (hh:PySem.W.hasDictIn K C=true)
 (hw:PySem.Within mA ns) (hsz:ns.length≤sizeLine)
 (h:∀ h',ObjM h' x dx C (fun y=>if y=name then some v else mA y)->Heap.SameBut dx s.heap h'->Q () { s with heap:=h',toks:=s.toks+2 }) :
 wpAny (model prog w) A (setAttr (.ref x) name v) Q E s:=by
 obtain ⟨od,J,hl⟩:=I.look
 refine PySem.W.set_plain X J hs (PySem.W.osa_open (s:={ s with toks:=s.toks+1 }) (r:=none) X J hp ht fun b=>?_)
 obtain ⟨cd,hc,hd'⟩:=PySem.W.any_some hh
 have hx:s.heap.get? x=some ⟨.ref C,some dx,.plain,#[]⟩:=I.obj
 refine wpAny_bind (wpAny_pure (wpAny_bind (wpAny_bind (wpAny_loadPart hx (wpAny_bind (PySem.W.Looks.here (s:={ s with toks:=s.toks+1 }) (PySem.W.looks_clsIn X hc) ?_))))))
 rw [hd']
 refine wpAny_pure (a:=some dx) (wpAny_bind (wpAny_pure (wpAny_bind ?_)))
 refine wpAny_nsSet1 (s:={ s with toks:=s.toks+1 }) I.ns fun h' hn2 hs2=>?_
 obtain ⟨oD,esD,epD,hoD,hdD,hcD⟩:=hn2.count (PySem.Within.cons name v hw)
 refine wpAny_bind (wpAny_lookBehind hoD (by rw [hdD];exact pastItsLine_dict (Nat.le_trans hcD (by rw [List.length_cons];omega))) ?_)
 exact wpAny_pure (h _ ⟨(hs2.2 _ (Ne.symm I.ne)).trans I.obj,hn2,I.ne⟩ hs2)
theorem make_map {R:Result->Shared->Prop} {vs:List Value} {kw:List (Str×Value)} (X:K.In s.heap) (hm:PySem.W.makesIn K C=true)
 (hi:PySem.W.findIn K (.ref C) "__init__" = some (some (.ref f))) (hf:PySem.W.typeIn K (.ref f)=some (.type "function"))
 (h:codeAny (model prog w) (A.under (.builtin "type.__call__" ⟨.ref C::vs,kw⟩)) (.call (.ref f) ⟨.ref (s.heap.objs.size+1)::vs,kw⟩) (PySem.W.InitBack (s.heap.objs.size+1) R)
  { s with heap:=(s.heap.push PySem.W.emptyDict).push (PySem.W.instObj C s.heap.objs.size) }) :
 codeAny (model prog w) A (.call (.ref C) ⟨vs,kw⟩) R s:=by
 obtain ⟨hh,g,d,t,os⟩:=s
 exact PySem.W.make_core (PySem.W.makes_of X hm) (PySem.W.looks_findIn X hi) (fun self=>PySem.W.bind_fn X self hf) (.inl rfl) h
end
def putF (f:Str) (v:V):List (Str×V)->List (Str×V)
 |[]=>[(f,v)]
 |(g,x)::r=>if g=f then (g,v)::r else (g,x)::putF f v r
theorem lookup_putF (f g:Str) (v:V):∀ fs:List (Str×V),(putF f v fs).lookup g=if g=f then some v else fs.lookup g
 | []=>by
   show List.lookup g [(f,v)]=_
   by_cases h:g=f
   ·have hb:(g == f)=true:=beq_iff_eq.mpr h
    simp only [List.lookup,hb,if_pos h]
   ·have hb:(g == f)=false:=beq_eq_false_iff_ne.mpr h
    simp only [List.lookup,hb,if_neg h]
 | (k,x)::r=>by
   have ih:=lookup_putF f g v r
   rw [show putF f v ((k,x)::r)=(if k=f then (k,v)::r else (k,x)::putF f v r) from rfl]
   by_cases hk:k=f
   ·rw [if_pos hk]
    by_cases h:g=k
    ·have hb:(g == k)=true:=beq_iff_eq.mpr h
     simp only [List.lookup,hb,if_pos (h.trans hk)]
    ·have hb:(g == k)=false:=beq_eq_false_iff_ne.mpr h
     simp only [List.lookup,hb,if_neg (fun e:g=f=>h (e.trans hk.symm))]
   ·rw [if_neg hk]
    by_cases h:g=k
    ·have hb:(g == k)=true:=beq_iff_eq.mpr h
     simp only [List.lookup,hb,if_neg (fun e:g=f=>hk (h.symm.trans e))]
    ·have hb:(g == k)=false:=beq_eq_false_iff_ne.mpr h
     simp only [List.lookup,hb]
     exact ih
theorem keys_putF (f:Str) (v:V):∀ fs:List (Str×V),f∈(putF f v fs).map (·.1)/\∀ g,g∈fs.map (·.1)->g∈(putF f v fs).map (·.1)
 |[]=>⟨by simp [putF],fun g h=>by simp at h⟩
 | (k,x)::r=>by
   obtain ⟨i1,i2⟩:=keys_putF f v r
   rw [show putF f v ((k,x)::r)=(if k=f then (k,v)::r else (k,x)::putF f v r) from rfl]
   by_cases hk:k=f
   ·rw [if_pos hk]
    subst hk
    exact ⟨by simp,fun g h=>by simpa using h⟩
   ·rw [if_neg hk]
    refine ⟨?_,fun g h=>?_⟩
    ·rw [List.map_cons]
     exact List.mem_cons_of_mem _ i1
    ·rw [List.map_cons] at h ⊢
     rcases List.mem_cons.mp h with e|e
     ·exact List.mem_cons.mpr (.inl e)
     ·exact List.mem_cons_of_mem _ (i2 g e)
theorem length_putF (f:Str) (v:V):∀ fs:List (Str×V),(putF f v fs).length≤fs.length+1
 |[]=>by simp [putF]
 | (k,x)::r=>by
   have ih:=length_putF f v r
   rw [show putF f v ((k,x)::r)=(if k=f then (k,v)::r else (k,x)::putF f v r) from rfl]
   by_cases hk:k=f
   ·rw [if_pos hk,List.length_cons,List.length_cons];omega
   ·rw [if_neg hk,List.length_cons,List.length_cons];omega
theorem RelO.some_of {v:V} {o:Option Value} (r:RelO (some v) o):∃ u,o=some u/\RelV v u:=by
 cases o with
 |none=>exact (show False from r).elim
 |some u=>exact ⟨u,rfl,r⟩
theorem RelO.none_of {o:Option Value} (r:RelO none o):o=none:=by
 cases o with
 |none=>rfl
 |some u=>exact (show False from r).elim
theorem handed_of {v:V} {u:Value} (r:RelV v u):PySem.W.handedIn u=true:=by
 cases v with
 |non=>cases (show u=Value.none from r);rfl
 |bl b=>cases (show u=Value.bool b from r);rfl
 |int i=>obtain ⟨t,e⟩:=(show ∃ t,u=Value.int i t from r);cases e;rfl
 |str x=>obtain ⟨t,e⟩:=(show ∃ t,u=Value.str x t from r);cases e;rfl
 |byt b=>obtain ⟨t,e⟩:=(show ∃ t,u=Value.bytes b t from r);cases e;rfl
 |flt b=>obtain ⟨t,e⟩:=(show ∃ t,u=Value.float b t from r);cases e;rfl
 |ref a=>cases (show u=Value.ref a from r);rfl
 |ty n=>cases (show u=Value.type n from r);rfl
section
variable {P:Program} {w:World} {H H':Hp} {h h':Heap} {a C dx:Addr} {fs fs':List (Str×V)}
theorem ins_get (hok:HOk P w H h) (e:H a=some (.ins C dx fs)):∃ mA,ObjM h a dx C mA/\(∀ f,RelO (fs.lookup f) (mA f))/\PySem.Within mA (fs.map (·.1))/\fs.length≤1000/\H dx=some (.own a):=by
 obtain ⟨d,z,ne,ob,mA,n,r,q⟩:=(show ObjOk P w H h a (.ins C dx fs) from hok a _ e)
 exact ⟨mA,⟨ob,n,ne⟩,r,q,z,d⟩
end
structure Cls (K:PySem.W.Frag) (C:Addr):Prop where
 pg:PySem.W.plainGet K C Str.empty=true
 hd:PySem.W.hasDictIn K C=true
 po:PySem.W.plainOver K C=true
 sa:PySem.W.findIn K (.ref C) "__setattr__" = some (some (.builtin "object.__setattr__"))
theorem Cls.get {K:PySem.W.Frag} {C:Addr} (c:Cls K C) (f:Str):PySem.W.plainGet K C f=true:=c.pg
def NoAttr (K:PySem.W.Frag) (C:Addr) (f:Str):Prop:=PySem.W.findIn K (.ref C) f=some none
theorem NoAttr.taker {K:PySem.W.Frag} {C:Addr} {f:Str} (n:NoAttr K C f):PySem.W.takerIn K C f=some none:=by
 unfold PySem.W.takerIn
 rw [show PySem.W.findIn K (.ref C) f=some none from n]
 rfl
structure Meth (K:PySem.W.Frag) (C:Addr) (m:Str) (f:Addr):Prop where
 at_:PySem.W.findIn K (.ref C) m=some (some (.ref f))
 fn:PySem.W.isFn K (.ref f)=true
 kp:PySem.W.keepIn K (.ref f)=true
section
variable {X:Cx} {pins:List (Addr×Obj)} {σ:St} {H:Hp} {s:Shared} {a C dx:Addr} {fs:List (Str×V)} {f:Str} {v:V} {A:Around} {E:Value->Shared->Prop}
theorem getattr_ok {b:Bool} {Q:Value->Shared->Prop} (I:Inv X pins σ H s) (e:H a=some (.ins C dx fs)) (c:Cls X.K C) (n:NoAttr X.K C f) (l:fs.lookup f=some v)
 (h:∀ u s',Inv X pins σ H s'->RelV v u->Q u s'):wpAny (model X.prog X.w) A (getAttr (.ref a) f b) Q E s:=by
 obtain ⟨mA,O,r,_,_,_⟩:=ins_get I.hok e
 obtain ⟨u,hu,ru⟩:=RelO.some_of (v:=v) (o:=mA f) (by rw [← l];exact r f)
 exact get_map I.kIn O (c.get f) c.hd n hu (handed_of ru) (h u _ (I.tok _) ru)
theorem getmeth_ok {m:Str} {g:Addr} {pl:Sem Bool} {Q:Value×List Value->Shared->Prop} (I:Inv X pins σ H s) (e:H a=some (.ins C dx fs)) (c:Cls X.K C) (k:Meth X.K C m g) (l:fs.lookup m=none)
 (h:Q (.ref g,[.ref a]) s):wpAny (model X.prog X.w) A (getMethod (.ref a) m pl) Q E s:=by
 obtain ⟨mA,O,r,_,_,_⟩:=ins_get I.hok e
 have hn:mA m=none:=RelO.none_of (by rw [← l];exact r m)
 exact get_meth I.kIn O (c.get m) k.at_ k.fn hn h
theorem setattr_ok {y:V} {u:Value} {Q:Unit->Shared->Prop} (I:Inv X pins σ H s) (e:H a=some (.ins C dx fs)) (c:Cls X.K C) (n:NoAttr X.K C f) (hl:fs.length<1000) (ry:RelV y u)
 (h:∀ s',Inv X pins σ (upd H a (.ins C dx (putF f y fs))) s'->Q () s'):wpAny (model X.prog X.w) A (setAttr (.ref a) f u) Q E s:=by
 obtain ⟨mA,O,r,wi,_,ho⟩:=ins_get I.hok e
 have hz:(fs.map (·.1)).length≤sizeLine:=by rw [List.length_map,sizeLine_eq];omega
 refine set_map I.kIn O c.sa c.po n.taker c.hd wi hz fun h' O' sb=>h _ ?_
 have hd:∃ o,h'.get? dx=some o:=let ⟨o,_,_,e',_⟩:=O'.ns;⟨o,e'⟩
 refine I.write (x:=a) (e:=dx) (by rw [e];exact True.intro) (.inr ho) (fun b q hb z=>(sb.2 b hb).trans z) hd ?_
 refine ⟨by rw [upd_ne O.ne];exact ho,?_,O.ne,O'.obj,_,O'.ns,fun g=>?_,fun g hg=>?_⟩
 ·have:=length_putF f y fs;omega
 ·show RelO ((putF f y fs).lookup g) (if g=f then some u else mA g)
  rw [lookup_putF]
  by_cases q:g=f
  ·rw [if_pos q,if_pos q];exact ry
  ·rw [if_neg q,if_neg q];exact r g
 ·by_cases q:g=f
  ·rw [q];exact (keys_putF f y fs).1
  ·refine (keys_putF f y fs).2 g (wi g fun z=>hg ?_)
   show (if g=f then some u else mA g)=none
   rw [if_neg q];exact z
theorem Inv.made (I:Inv X pins σ H s):Inv X pins σ (upd (upd H s.heap.objs.size (.own (s.heap.objs.size+1))) (s.heap.objs.size+1) (.ins C s.heap.objs.size []))
 { s with heap:=(s.heap.push PySem.W.emptyDict).push (PySem.W.instObj C s.heap.objs.size) }:=by
 have e1:(s.heap.push PySem.W.emptyDict).get? s.heap.objs.size=some PySem.W.emptyDict:=Heap.get?_push_size s.heap rfl
 have e2:((s.heap.push PySem.W.emptyDict).push (PySem.W.instObj C s.heap.objs.size)).get? (s.heap.objs.size+1)=some (PySem.W.instObj C s.heap.objs.size):=by
  have:=Heap.get?_push_size (s.heap.push PySem.W.emptyDict) (o:=PySem.W.instObj C s.heap.objs.size) rfl
  rwa [Heap.size_push] at this
 have e3:(s.heap.push PySem.W.emptyDict).Ns s.heap.objs.size (fun _=>none):=⟨PySem.W.emptyDict,#[],_,e1,rfl,(fun e he=>absurd he (by simp)),fun _=>rfl⟩
 have I1:=I.laid (a:=s.heap.objs.size) (o:=.own (s.heap.objs.size+1)) (h':=s.heap.push PySem.W.emptyDict) (t':=s.toks) (fun b u q=>Heap.get?_push_of_some _ q) (Nat.le_refl _) ⟨_,e1⟩
 refine I1.laid (a:=s.heap.objs.size+1) (o:=.ins C s.heap.objs.size []) (t':=s.toks) (fun b u q=>Heap.get?_push_of_some _ q) (Nat.le_of_eq (Heap.size_push _ _)) ?_
 have ne:s.heap.objs.size≠s.heap.objs.size+1:=Nat.ne_of_lt (Nat.lt_succ_self _)
 refine ⟨by rw [upd_ne ne,upd_same],Nat.zero_le _,ne,e2,fun _=>none,(Heap.Ns1.of_empty e3).at fun o q=>Heap.get?_push_of_some _ q,fun _=>True.intro,fun y hy=>absurd rfl hy⟩
theorem attr_of {prog:Program} {w:World} {env:Env} {e:Expr} {f:Str} {pos:Pos} {s:Shared} {Q:Value->Shared->Prop} (hb:attributeBase e f env (eval e env)=eval e env)
 (h:wpAny (model prog w) A (eval e env) (fun o s₁=>wpAny (model prog w) A (getAttr o f true) Q E s₁) E s):wpAny (model prog w) A (eval (.Attribute e f pos) env) Q E s:=
 Attribute_any_ h (by rw [arm_eval_Attribute,hb])
end
def tFld (K:PySem.W.Frag) (ta:TE) (f:Str):TE:=fun σ H Q=>ta σ H fun x H1=>∃ a C dx fs v,x=.ref a/\H1 a=some (.ins C dx fs)/\Cls K C/\NoAttr K C f/\fs.lookup f=some v/\Q v H1
def sFld (K:PySem.W.Frag) (ta tv:TE) (f:Str):TS:=fun D σ H=>tv σ H fun y H1=>ta σ H1 fun x H2=>∃ a C dx fs,x=.ref a/\H2 a=some (.ins C dx fs)/\Cls K C/\NoAttr K C f/\fs.length<1000/\
 D.nx σ (upd H2 a (.ins C dx (putF f y fs)))
def InOp (X:Cx) (op:Operator) (rd:V->V->Hp->VK->Prop):Prop:=
 ∀ (pins:List (Addr×Obj)) (s:Shared) (σ:St) (H:Hp) (x y:V) (u v:Value) (Q:VK),Inv X pins σ H s->RelV x u->RelV y v->rd x y H Q->wpAny (model X.prog X.w) X.A (inplaceOp op u v) (EP X pins σ Q) X.xe s
def sFldAug (K:PySem.W.Frag) (ta tv:TE) (rd:V->V->Hp->VK->Prop) (f:Str):TS:=fun D σ H=>ta σ H fun x H1=>∃ a C dx fs v,x=.ref a/\H1 a=some (.ins C dx fs)/\Cls K C/\NoAttr K C f/\fs.lookup f=some v/\
 tv σ H1 fun y H2=>rd v y H2 fun z H3=>∃ dx' fs',H3 a=some (.ins C dx' fs')/\fs'.length<1000/\D.nx σ (upd H3 a (.ins C dx' (putF f z fs')))
section
variable {X:Cx} {o e value:Expr} {f:Str} {pos pos' tpos:Pos} {ta tv:TE}
theorem pe_fld (he:PE X e ta) (hb:attributeBase e f X.env (eval e X.env)=eval e X.env):PE X (.Attribute e f pos) (tFld X.K ta f):=by
 intro pins s σ H Q I h
 refine attr_of hb (thn (he pins s σ H _ I h) fun u s1 ⟨x,H1,I1,rx,a,C,dx,fs,v,ex,ea,c,n,l,q⟩=>?_)
 subst ex
 obtain rfl:u=Value.ref a:=rx
 exact getattr_ok I1 ea c n l fun u' s2 I2 ru=>⟨v,H1,I2,ru,q⟩
theorem ps_fld (ha:PE X o ta) (hv:PE X value tv) (hs:swapsWith value (some (.Attribute o f pos')) pos.line X.env=pure false):PS X (.Assign [.Attribute o f pos'] value pos) (sFld X.K ta tv f):=by
 intro pins s σ H D I h
 refine plainObj_wpAny_Assign_Attribute (thn (hv pins s σ H _ I h) fun u s1 ⟨y,H1,I1,ry,q⟩=>thn (ha pins s1 σ H1 _ I1 q) fun ov s2 ⟨x,H2,I2,rx,a,C,dx,fs,ex,ea,c,n,l,q2⟩=>?_) hs
 subst ex
 obtain rfl:ov=Value.ref a:=rx
 exact setattr_ok I2 ea c n l ry fun s3 I3=>⟨σ,_,I3,q2⟩
theorem ps_fldaug {op:Operator} {rd:V->V->Hp->VK->Prop} (ha:PE X o ta) (hv:PE X value tv) (hop:InOp X op rd):PS X (.AugAssign (.Attribute o f tpos) op value pos) (sFldAug X.K ta tv rd f):=by
 intro pins s σ H D I h
 refine wpAny_AugAssign_AttributeAny (thn (ha pins s σ H _ I h) fun ov s1 ⟨x,H1,I1,rx,a,C,dx,fs,v,ex,ea,c,n,l,q⟩=>?_)
 subst ex
 obtain rfl:ov=Value.ref a:=rx
 refine getattr_ok I1 ea c n l fun u s2 I2 ru=>thn (hv pins s2 σ H1 _ I2 q) fun w3 s3 ⟨y,H2,I3,ry,q3⟩=>thn (hop pins s3 σ H2 v y u w3 _ I3 ru ry q3) fun w4 s4 ⟨z,H3,I4,rz,dx',fs',ea',l',q4⟩=>?_
 exact setattr_ok I4 ea' c n l' rz fun s5 I5=>⟨σ,_,I5,q4⟩
def rAdd:V->V->Hp->VK->Prop:=fun x y H Q=>∃ i j,x=.int i/\y=.int j/\Q (.int (i+j)) H
def rSub:V->V->Hp->VK->Prop:=fun x y H Q=>∃ i j,x=.int i/\y=.int j/\Q (.int (i-j)) H
theorem in_add:InOp X .Add rAdd:=by
 rintro pins s σ H x y u v Q I rx ry ⟨i,j,rfl,rfl,q⟩
 obtain ⟨t,rfl⟩:=(show ∃ t,u=Value.int i t from rx)
 obtain ⟨t',rfl⟩:=(show ∃ t',v=Value.int j t' from ry)
 exact PyProof.Rows.iadd_int ⟨.int (i+j),H,I.tok _,⟨_,rfl⟩,q⟩
theorem in_sub:InOp X .Sub rSub:=by
 rintro pins s σ H x y u v Q I rx ry ⟨i,j,rfl,rfl,q⟩
 obtain ⟨t,rfl⟩:=(show ∃ t,u=Value.int i t from rx)
 obtain ⟨t',rfl⟩:=(show ∃ t',v=Value.int j t' from ry)
 exact PyProof.Rows.isub_int ⟨.int (i-j),H,I.tok _,⟨_,rfl⟩,q⟩
theorem methcall_of {pl:Sem Bool} {m:Str} {apos:Pos} {args:List Expr} {pins:List (Addr×Obj)} {s:Shared} {σ:St} {H:Hp} {Q:Value->Shared->Prop} {te:TE} (he:PE X e te) (I:Inv X pins σ H s)
 (h:te σ H fun x H1=>∃ a C dx fs g,x=.ref a/\H1 a=some (.ins C dx fs)/\Cls X.K C/\Meth X.K C m g/\fs.lookup m=none/\
  ∀ s1,Inv X pins σ H1 s1->wpAny (model X.prog X.w) X.A (callWith pos (.ref g) [.ref a] (backTo pos (starEach args X.env)) (backToKw pos (keywordEach [] X.env))) Q X.xe s1)
 (ht:eval (.Call (.Attribute e m apos) args [] pos) X.env=(do
  let ov ← eval e X.env
  standAt apos.atName
  let (f,first) ← holding [ov] (getMethod ov m pl)
  callWith pos f first (backTo pos (starEach args X.env)) (backToKw pos (keywordEach [] X.env)))) :
 wpAny (model X.prog X.w) X.A (eval (.Call (.Attribute e m apos) args [] pos) X.env) Q X.xe s:=by
 refine PySem.W.methodCall_KW (pl:=pl) (thn (he pins s σ H _ I h) fun u s1 ⟨x,H1,I1,rx,a,C,dx,fs,g,ex,ea,c,k,l,q⟩=>?_) ht
 subst ex
 obtain rfl:u=Value.ref a:=rx
 exact getmeth_ok I1 ea c k l (q s1 I1)
end
section
variable {X:Cx} {pins:List (Addr×Obj)} {σ:St} {H:Hp} {s:Shared} {A:Around} {E:Value->Shared->Prop} {Q:Value->Shared->Prop} {c:Value} {b:Bool}
end
structure Room (k:Nat) (A:Around):Prop where
 hd:A.handled=none
 dp:A.depth+3*k+5<recursionLimit
 un:A.units+16*k+200<cLine
 gd:A.guards=some []
theorem Room.mono {j k:Nat} {A:Around} (r:Room k A) (h:j≤k):Room j A:=⟨r.hd,by have:=r.dp;omega,by have:=r.un;omega,r.gd⟩
theorem Room.deeper {k:Nat} {A:Around} (r:Room (k+1) A) (env:Env):Room k (A.deeper env):=
 ⟨r.hd,by have:=r.dp;show A.depth+1+3*k+5<_;omega,by have:=r.un;show A.units+3+16*k+200<_;omega,r.gd⟩
theorem make_depth {A:Around} {C:Addr} {us:List Value} {kw:List (Str×Value)}:(A.under (.builtin "type.__call__" ⟨.ref C::us,kw⟩)).depth=A.depth+1:=by
 first|rfl|simp [Around.under,Code.weight,Code.isCreation,Code.isGuard,Code.isCaller,Code.frames,Code.isFrame,guardIds]
theorem make_units {A:Around} {C:Addr} {us:List Value} {kw:List (Str×Value)}:(A.under (.builtin "type.__call__" ⟨.ref C::us,kw⟩)).units=A.units+1:=by
 first|rfl|simp [Around.under,Code.cUnits,Code.frames,Code.isFrame]
theorem Room.make {k:Nat} {A:Around} (r:Room (k+1) A) (C:Addr) (us:List Value) (kw:List (Str×Value)):Room k (A.under (.builtin "type.__call__" ⟨.ref C::us,kw⟩)):=
 ⟨r.hd,by have:=r.dp;rw [make_depth];omega,by have:=r.un;rw [make_units];omega,by have:=r.gd;first|exact this|(simpa [Around.under] using this)⟩
theorem Room.depth {k:Nat} {A:Around} (r:Room k A):A.depth<recursionLimit:=by have:=r.dp;omega
theorem Room.units {k:Nat} {A:Around} (r:Room k A):A.units+64<cLine:=by have:=r.un;omega
def tNil:TA:=fun _ H Q=>Q [] H
def tCons (ta:TE) (tr:TA):TA:=fun σ H Q=>ta σ H fun x H1=>tr σ H1 fun xs H2=>Q (x::xs) H2
section
variable {X:Cx} {e:Expr} {es:List Expr} {te:TE} {t:TA} {pos:Pos}
theorem pa_nil:PA X [] tNil:=fun _ _ _ _ H Q I h=>Calls.spliced_nil ⟨[],H,I,.nil,h⟩
theorem pa_cons (ha:PE X e te) (hr:PA X es t) (hs:starEach (e::es) X.env=(false,eval e X.env)::starEach es X.env:=by rfl):PA X (e::es) (tCons te t):=by
 intro pos pins s σ H Q I h
 rw [hs]
 show wpAny _ _ (spliced ((false,eval e X.env)::backTo pos (starEach es X.env))) _ _ s
 refine Calls.spliced_cons (thn (ha pins s σ H _ I h) fun u s1 ⟨x,H1,I1,r1,q1⟩=>?_)
 exact thn (hr pos pins s1 σ H1 _ I1 q1) fun us s2 ⟨xs,H2,I2,r2,q2⟩=>⟨x::xs,H2,I2,.cons r1 r2,q2⟩
def tTup (t:TA):TE:=fun σ H Q=>t σ H fun xs H1=>xs.length≤sizeLine/\∀ p,H1 p=none->Q (.ref p) (upd H1 p (.tup xs))
def tLst (t:TA):TE:=fun σ H Q=>t σ H fun xs H1=>xs.length≤sizeLine/\∀ p,H1 p=none->Q (.ref p) (upd H1 p (.lst xs))
theorem pe_tup {x1} (h:PA X es t):PE X (.Tuple es x1 pos) (tTup t):=by
 intro pins s σ H Q I hq
 refine wpAny_Tuple_spliced (thn (h pos pins s σ H _ I hq) fun us s1 ⟨xs,H1,I1,r,z,q⟩=>⟨by rw [← r.length];exact z,?_⟩)
 have hf:H1 s1.heap.objs.size=none:=I1.hok.fresh (Nat.le_refl _)
 refine ⟨.ref s1.heap.objs.size,upd H1 s1.heap.objs.size (.tup xs),I1.laid (t':=s1.toks) (fun b u e=>Heap.get?_push_of_some _ e) (Nat.le_refl _) ?_,rfl,q _ hf⟩
 exact ⟨z,us,r,⟨_,Heap.get?_push_size _ rfl,rfl,_,rfl⟩⟩
theorem pe_lst (h:PA X es t):PE X (.List es pos) (tLst t):=by
 intro pins s σ H Q I hq
 refine wpAny_List_spliced (thn (h pos pins s σ H _ I hq) fun us s1 ⟨xs,H1,I1,r,z,q⟩=>⟨by rw [← r.length];exact z,?_⟩)
 have hf:H1 s1.heap.objs.size=none:=I1.hok.fresh (Nat.le_refl _)
 refine ⟨.ref s1.heap.objs.size,upd H1 s1.heap.objs.size (.lst xs),I1.laid (t':=s1.toks) (fun b u e=>Heap.get?_push_of_some _ e) (Nat.le_refl _) ?_,rfl,q _ hf⟩
 exact ⟨z,us,0,r,Heap.get?_push_size _ rfl⟩
end
abbrev Sp:=List V->Hp->VK->XK->Prop
abbrev CXT:=List Env->Hp->Shared->XK->Value->Shared->Prop
structure Env0 (P:Program) (w:World) (K:PySem.W.Frag) (mg:Str->Option Value) (base:Heap) (A:Around) (outer:List Env) (s:Shared) (H:Hp):Prop where
 frames:A.frames=some outer
 mod:Mod K mg base
 bs:∀ b o,base.get? b=some o->s.heap.get? b=some o/\H b=none
 bsz:base.objs.size≤s.heap.objs.size
 funs:s.heap.FunFrames base outer
 frf:∀ b∈frs outer,H b=none
 hok:HOk P w H s.heap
 bare:AllBare s.gens
def CE (outer:List Env) (P:Program) (w:World) (H:Hp) (s:Shared) (Q:VK) (u:Value) (s':Shared):Prop:=
 ∃ v H',s'.os=s.os/\AllBare s'.gens/\Un (frs outer) [] H H' s.heap s'.heap/\HOk P w H' s'.heap/\RelV v u/\Q v H'
def CR (CX:CXT) (outer:List Env) (P:Program) (w:World) (H:Hp) (s:Shared) (Q:VK) (E:XK) (r:Result) (s':Shared):Prop:=
 match r with
 |.ok (.ret u)=>CE outer P w H s Q u s'
 |.ok _=>False
 |.error e=>CX outer H s E e s'
structure FnOk (P:Program) (w:World) (K:PySem.W.Frag) (mg:Str->Option Value) (base:Heap) (CX:CXT) (k:Nat) (f:Addr) (fd:FuncData) (ps:List Str) (sp:Sp):Prop where
 len:∀ vs H Q E,sp vs H Q E->vs.length=ps.length
 run:∀ (A:Around) (outer:List Env) (s:Shared) (H:Hp) (args:Args) (us:List Value) (vs:List V) (Q:VK) (E:XK),Room k A->Env0 P w K mg base A outer s H->BindsTo s fd args (ps.zip us)->Vals vs us->sp vs H Q E->
  codeAny (model P w) A (.call (.ref f) args) (CR CX outer P w H s Q E) s
theorem Env0.make {P:Program} {w:World} {K:PySem.W.Frag} {mg:Str->Option Value} {base:Heap} {A:Around} {outer:List Env} {s:Shared} {H:Hp} (e:Env0 P w K mg base A outer s H) (C:Addr) (us:List Value) (kw:List (Str×Value)) :
 Env0 P w K mg base (A.under (.builtin "type.__call__" ⟨.ref C::us,kw⟩)) outer s H:=⟨by first|exact e.frames|(simpa [Around.under,Code.envs,Code.isFrame,pushEnvs] using e.frames),e.mod,e.bs,e.bsz,e.funs,e.frf,e.hok,e.bare⟩
section
variable {X:Cx} {pins:List (Addr×Obj)} {σ:St} {H:Hp} {s s':Shared}
theorem Inv.env0 (I:Inv X pins σ H s):Env0 X.prog X.w X.K X.mg X.base X.A X.stack s H:=
 ⟨I.ok.frames,I.ok.mod,I.bs,Nat.le_trans I.ok.bsz I.sz,I.stack,I.stkFree,I.hok,I.bare⟩
theorem Inv.after {Q:VK} {u:Value} (I:Inv X pins σ H s) (h:CE X.stack X.prog X.w H s Q u s'):EP X pins σ Q u s':=by
 obtain ⟨v,H',os,bare,un,hok,r,q⟩:=h
 obtain ⟨hh,g,d,t,os'⟩:=s'
 obtain rfl:os'=s.os:=os
 exact ⟨v,H',I.call (h':=hh) (g':=g) (d':=d) (t':=t) (ch:=[]) un hok bare (fun b z=>absurd z (by simp)),r,q⟩
end
def tCall (sp:Sp) (dvs:List V) (E:XK) (t:TA):TE:=fun σ H Q=>t σ H fun vs H1=>sp (vs++dvs) H1 Q E
def tMeth (C:Addr) (m:Str) (sp:Sp) (dvs:List V) (E:XK) (ta:TE) (t:TA):TE:=fun σ H Q=>ta σ H fun x H1=>∃ a dx fs,x=.ref a/\H1 a=some (.ins C dx fs)/\fs.lookup m=none/\
 t σ H1 fun vs H2=>sp (x::(vs++dvs)) H2 Q E
def tMake (C:Addr) (sp:Sp) (dvs:List V) (E:XK) (t:TA):TE:=fun σ H Q=>t σ H fun vs H1=>∀ x dx,H1 x=none->H1 dx=none->dx≠x->
 sp (.ref x::(vs++dvs)) (upd (upd H1 dx (.own x)) x (.ins C dx [])) (fun v H2=>v=.non/\Q (.ref x) H2) E
def Binds (K:PySem.W.Frag) (fd:FuncData) (ps:List Str) (ds:List Value):Prop:=
 ∀ (s:Shared) (us:List Value),K.In s.heap->(us++ds).length=ps.length->BindsTo s fd ⟨us,[]⟩ (ps.zip (us++ds))
theorem Binds.all {K:PySem.W.Frag} {fd:FuncData} {ps:List Str} (h:∀ us:List Value,us.length=ps.length->bindArgs fd ⟨us,[]⟩=pure (ps.zip us)):Binds K fd ps []:=fun s us _ hl=>by
 rw [List.append_nil] at hl ⊢
 exact .of_eq (h us hl)
def Passes (CX:CXT) (X:Cx) (E:XK):Prop:=∀ (pins:List (Addr×Obj)) (σ:St) (H:Hp) (s:Shared) (e:Value) (s':Shared),Inv X pins σ H s->CX X.stack H s E e s'->X.xe e s'
section
variable {X:Cx} {CX:CXT} {k:Nat} {f C:Addr} {fd:FuncData} {ps:List Str} {sp:Sp} {dvs:List V} {ds:List Value} {E:XK} {x m:Str} {p pos apos:Pos} {e o:Expr} {es:List Expr} {ta:TE} {t:TA}
theorem run_fn {pins:List (Addr×Obj)} {σ:St} {H:Hp} {s:Shared} {Q:VK} {us:List Value} {vs:List V} (F:FnOk X.prog X.w X.K X.mg X.base CX k f fd ps sp) (hr:Room k X.A) (hb:Binds X.K fd ps ds) (hd:Vals dvs ds) (hx:Passes CX X E)
 (I:Inv X pins σ H s) (r:Vals vs us) (h:sp (vs++dvs) H Q E):wpAny (model X.prog X.w) X.A (call (.ref f) us) (EP X pins σ Q) X.xe s:=by
 have r2:Vals (vs++dvs) (us++ds):=r.append hd
 have hl:(us++ds).length=ps.length:=by rw [← r2.length];exact F.len _ _ _ _ h
 refine wpAny_call (codeAny_mono (F.run X.A X.stack s H ⟨us,[]⟩ (us++ds) (vs++dvs) Q E hr I.env0 (hb s us I.kIn hl) r2 h) fun r s' hq=>?_)
 cases r with
 |error e=>exact hx pins σ H s e s' I hq
 | ok fl=>
   cases fl with
   |ret u=>exact I.after hq
   |next=>exact False.elim hq
   |brk=>exact False.elim hq
   |cont=>exact False.elim hq
theorem pe_call (F:FnOk X.prog X.w X.K X.mg X.base CX k f fd ps sp) (hr:Room k X.A) (hg:Gl X x) (hm:X.mg x=some (.ref f)) (hk:PySem.W.keepIn X.K (.ref f)=true) (hb:Binds X.K fd ps ds) (hd:Vals dvs ds) (hx:Passes CX X E)
 (ha:PA X (e::es) t) (hdb:(x == ("__debug__" : Str))=false:=by decide) (he:starEach (e::es) X.env=(false,eval e X.env)::starEach es X.env:=by rfl) (hpl:(backTo pos (starEach es X.env)).any (·.1)=false:=by rfl) :
 PE X (.Call (.Name x p) (e::es) [] pos) (tCall sp dvs E t):=by
 intro pins s σ H Q I h
 refine wpAny_Call_Name_kw (ld_glob I hg hm ?_ hdb)
 refine PySem.W.callWith_K (h₀:=X.base) I.ok.mod.kin hk (thn (ha pos pins s σ H _ I h) fun us s1 ⟨vs,H1,I1,r,q⟩=>⟨I1.kIn,?_⟩) he hpl
 exact run_fn F hr hb hd hx I1 r q
theorem pe_meth {pl:Sem Bool} (he:PE X o ta) (c:Cls X.K C) (hm:Meth X.K C m f) (F:FnOk X.prog X.w X.K X.mg X.base CX k f fd ps sp) (hr:Room k X.A) (hb:Binds X.K fd ps ds) (hd:Vals dvs ds) (hx:Passes CX X E) (ha:PA X (e::es) t)
 (hst:starEach (e::es) X.env=(false,eval e X.env)::starEach es X.env:=by rfl) (hpl:(backTo pos (starEach es X.env)).any (·.1)=false:=by rfl)
 (ht:eval (.Call (.Attribute o m apos) (e::es) [] pos) X.env=(do
  let ov ← eval o X.env
  standAt apos.atName
  let (f,first) ← holding [ov] (getMethod ov m pl)
  callWith pos f first (backTo pos (starEach (e::es) X.env)) (backToKw pos (keywordEach [] X.env))):=by rfl) :
 PE X (.Call (.Attribute o m apos) (e::es) [] pos) (tMeth C m sp dvs E ta t):=by
 intro pins s σ H Q I h
 refine PySem.W.methodCall_KW (pl:=pl) (thn (he pins s σ H _ I h) fun u s1 ⟨x,H1,I1,rx,a,dx,fs,ex,ea,l,q⟩=>?_) ht
 subst ex
 obtain rfl:u=Value.ref a:=rx
 refine getmeth_ok I1 ea c hm l ?_
 refine PySem.W.callWith_K (first:=[.ref a]) (h₀:=X.base) I.ok.mod.kin hm.kp (thn (ha pos pins s1 σ H1 _ I1 q) fun us s2 ⟨vs,H2,I2,r,q2⟩=>⟨I2.kIn,?_⟩) hst hpl
 exact run_fn (us:=.ref a::us) (vs:=.ref a::vs) F hr hb hd hx I2 (.cons rfl r) q2
theorem pe_meth0 {pl:Sem Bool} (he:PE X o ta) (c:Cls X.K C) (hm:Meth X.K C m f) (F:FnOk X.prog X.w X.K X.mg X.base CX k f fd ps sp) (hr:Room k X.A) (hb:Binds X.K fd ps ds) (hd:Vals dvs ds) (hx:Passes CX X E)
 (ht:eval (.Call (.Attribute o m apos) [] [] pos) X.env=(do
  let ov ← eval o X.env
  standAt apos.atName
  let (f,first) ← holding [ov] (getMethod ov m pl)
  callWith pos f first (backTo pos (starEach [] X.env)) (backToKw pos (keywordEach [] X.env))):=by rfl) :
 PE X (.Call (.Attribute o m apos) [] [] pos) (tMeth C m sp dvs E ta tNil):=by
 intro pins s σ H Q I h
 refine PySem.W.methodCall_KW (pl:=pl) (thn (he pins s σ H _ I h) fun u s1 ⟨x,H1,I1,rx,a,dx,fs,ex,ea,l,q⟩=>?_) ht
 subst ex
 obtain rfl:u=Value.ref a:=rx
 refine getmeth_ok I1 ea c hm l ?_
 exact PySem.W.callWith_K0 (first:=[.ref a]) I1.kIn hm.kp (run_fn (us:=[.ref a]) (vs:=[.ref a]) F hr hb hd hx I1 (.cons rfl .nil) q)
structure Mk (K:PySem.W.Frag) (C f:Addr):Prop where
 makes:PySem.W.makesIn K C=true
 init:PySem.W.findIn K (.ref C) "__init__" = some (some (.ref f))
 fn:PySem.W.isFn K (.ref f)=true
 kp:PySem.W.keepIn K (.ref C)=true
theorem run_make {pins:List (Addr×Obj)} {σ:St} {H:Hp} {s:Shared} {Q:VK} {us:List Value} {vs:List V} (M:Mk X.K C f) (F:FnOk X.prog X.w X.K X.mg X.base CX k f fd ps sp) (hr:Room (k+1) X.A) (hb:Binds X.K fd ps ds) (hd:Vals dvs ds)
 (hx:Passes CX X E) (I:Inv X pins σ H s) (r:Vals vs us)
 (h:∀ x dx,H x=none->H dx=none->dx≠x->sp (.ref x::(vs++dvs)) (upd (upd H dx (.own x)) x (.ins C dx [])) (fun v H2=>v=.non/\Q (.ref x) H2) E) :
 wpAny (model X.prog X.w) X.A (call (.ref C) us) (EP X pins σ Q) X.xe s:=by
 have hq:=h (s.heap.objs.size+1) s.heap.objs.size (I.hok.fresh (Nat.le_succ _)) (I.hok.fresh (Nat.le_refl _)) (Nat.ne_of_lt (Nat.lt_succ_self _))
 have I2:=Inv.made (C:=C) I
 have r2:Vals (V.ref (s.heap.objs.size+1)::(vs++dvs)) (Value.ref (s.heap.objs.size+1)::(us++ds)):=.cons rfl (r.append hd)
 have hl:(Value.ref (s.heap.objs.size+1)::us++ds).length=ps.length:=by
  have e:=r2.length
  rw [F.len _ _ _ _ hq] at e
  exact e.symm
 refine wpAny_call (make_map (f:=f) I.kIn M.makes M.init (beq_iff_eq.mp M.fn) (codeAny_mono (F.run _ X.stack _ _ ⟨Value.ref (s.heap.objs.size+1)::us,[]⟩ (Value.ref (s.heap.objs.size+1)::(us++ds)) _ _ E (hr.make C us [])
  (I2.env0.make C us []) (hb _ (Value.ref (s.heap.objs.size+1)::us) I2.kIn hl) r2 hq) fun r s' hq'=>?_))
 cases r with
 |error e=>exact hx pins σ _ _ e s' I2 hq'
 | ok fl=>
   cases fl with
   | ret u=>
     obtain ⟨v,H',I3,rv,ev,q3⟩:=I2.after hq'
     subst ev
     exact ⟨rv,⟨V.ref (s.heap.objs.size+1),H',I3,rfl,q3⟩⟩
   |next=>exact False.elim hq'
   |brk=>exact False.elim hq'
   |cont=>exact False.elim hq'
theorem pe_make (M:Mk X.K C f) (F:FnOk X.prog X.w X.K X.mg X.base CX k f fd ps sp) (hr:Room (k+1) X.A) (hg:Gl X x) (hm:X.mg x=some (.ref C)) (hb:Binds X.K fd ps ds) (hd:Vals dvs ds) (hx:Passes CX X E)
 (ha:PA X (e::es) t) (hdb:(x == ("__debug__" : Str))=false:=by decide) (he:starEach (e::es) X.env=(false,eval e X.env)::starEach es X.env:=by rfl) (hpl:(backTo pos (starEach es X.env)).any (·.1)=false:=by rfl) :
 PE X (.Call (.Name x p) (e::es) [] pos) (tMake C sp dvs E t):=by
 intro pins s σ H Q I h
 refine wpAny_Call_Name_kw (ld_glob I hg hm ?_ hdb)
 refine PySem.W.callWith_K (h₀:=X.base) I.ok.mod.kin M.kp (thn (ha pos pins s σ H _ I h) fun us s1 ⟨vs,H1,I1,r,q⟩=>⟨I1.kIn,?_⟩) he hpl
 exact run_make M F hr hb hd hx I1 r q
theorem pe_make0 (M:Mk X.K C f) (F:FnOk X.prog X.w X.K X.mg X.base CX k f fd ps sp) (hr:Room (k+1) X.A) (hg:Gl X x) (hm:X.mg x=some (.ref C)) (hb:Binds X.K fd ps ds) (hd:Vals dvs ds) (hx:Passes CX X E)
 (hdb:(x == ("__debug__" : Str))=false:=by decide):PE X (.Call (.Name x p) [] [] pos) (tMake C sp dvs E tNil):=by
 intro pins s σ H Q I h
 refine wpAny_Call_Name_kw (ld_glob I hg hm ?_ hdb)
 exact PySem.W.callWith_K0 I.kIn M.kp (run_make (us:=[]) M F hr hb hd hx I .nil h)
end
def PK (X:Cx) (kws:List Keyword) (t:TA):Prop:=
 ∀ (pos:Pos) (pins:List (Addr×Obj)) (s:Shared) (σ:St) (H:Hp) (Q:List V->Hp->Prop),Inv X pins σ H s->t σ H Q->wpAny (model X.prog X.w) X.A (evalAll ((backToKw pos (keywordEach kws X.env)).map (·.2))) (AP X pins σ Q) X.xe s
section
variable {X:Cx} {CX:CXT} {k:Nat} {f C:Addr} {fd:FuncData} {ps ks:List Str} {sp:Sp} {E:XK} {x m:Str} {p pos apos kpos:Pos} {e o:Expr} {es:List Expr} {kws:List Keyword} {te ta:TE} {t tk:TA} {nm:Option Str}
theorem pk_nil:PK X [] tNil:=fun _ _ _ _ H Q I h=>wpAny_evalAll_nil ⟨[],H,I,.nil,h⟩
theorem pk_cons (ha:PE X e te) (hr:PK X kws t):PK X (⟨nm,e,kpos⟩::kws) (tCons te t):=by
 intro pos pins s σ H Q I h
 show wpAny _ _ (evalAll ((do let v ← eval e X.env;standAt pos;pure v)::(backToKw pos (keywordEach kws X.env)).map (·.2))) _ _ s
 refine wpAny_evalAll_cons (wpAny_bind (thn (ha pins s σ H _ I h) fun u s1 ⟨x,H1,I1,r1,q1⟩=>wpAny_bind (wpAny_standAt (wpAny_pure ?_))))
 exact thn (hr pos pins s1 σ H1 _ I1 q1) fun us s2 ⟨xs,H2,I2,r2,q2⟩=>⟨x::xs,H2,I2,.cons r1 r2,q2⟩
structure KBinds (K:PySem.W.Frag) (fd:FuncData) (ps ks:List Str) (g:List Value->List Value->List Value) (gV:List V->List V->List V):Prop where
 to:∀ (s:Shared) (us ws:List Value),K.In s.heap->(g us ws).length=ps.length->BindsTo s fd ⟨us,ks.zip ws⟩ (ps.zip (g us ws))
 rel:∀ {vs:List V} {us:List Value} {zs:List V} {ws:List Value},Vals vs us->Vals zs ws->Vals (gV vs zs) (g us ws)
variable {g:List Value->List Value->List Value} {gV:List V->List V->List V}
theorem run_fnk {pins:List (Addr×Obj)} {σ:St} {H:Hp} {s:Shared} {Q:VK} {us ws:List Value} {vs zs:List V} (F:FnOk X.prog X.w X.K X.mg X.base CX k f fd ps sp) (hr:Room k X.A) (hb:KBinds X.K fd ps ks g gV) (hx:Passes CX X E)
 (I:Inv X pins σ H s) (r:Vals vs us) (rz:Vals zs ws) (h:sp (gV vs zs) H Q E):wpAny (model X.prog X.w) X.A (call (.ref f) us (ks.zip ws)) (EP X pins σ Q) X.xe s:=by
 have r2:=hb.rel r rz
 have hl:(g us ws).length=ps.length:=by rw [← r2.length];exact F.len _ _ _ _ h
 refine wpAny_call (codeAny_mono (F.run X.A X.stack s H ⟨us,ks.zip ws⟩ (g us ws) (gV vs zs) Q E hr I.env0 (hb.to s us ws I.kIn hl) r2 h) fun r s' hq=>?_)
 cases r with
 |error e=>exact hx pins σ H s e s' I hq
 | ok fl=>
   cases fl with
   |ret u=>exact I.after hq
   |next=>exact False.elim hq
   |brk=>exact False.elim hq
   |cont=>exact False.elim hq
end
structure FnScope (N P:List Str) (sc:Scope):Prop where
 kind:sc.kind=.function
 co:sc.isCoroutine=false
 gen:sc.isGenerator=false
 nd:N.Nodup
 pre:N.take P.length=P
 par:∀ x∈P,sc.names.lookup x=some .local∨sc.names.lookup x=some .cell
 nofree:∀ y∈sc.names,y.2≠.free
theorem bindL_out {kindOf:Str->Option NameKind} {x:Str}:∀ {binds:List (Str×Value)} {m:Str->Option Value},(∀ v,(x,v)∉binds)->bindL kindOf binds m x=m x
 |[],_,_=>rfl
 | (n,v)::r,m,h=>by
   unfold bindL
   rw [bindL_out fun w hw=>h w (List.mem_cons_of_mem _ hw)]
   split
   ·have:x≠n:=by rintro rfl;exact h v List.mem_cons_self
    simp [this]
   ·rfl
theorem bindC_out {kindOf:Str->Option NameKind} {x:Str}:∀ {binds:List (Str×Value)} {m:Str->Option Value},(∀ v,(x,v)∉binds)->bindC kindOf binds m x=m x
 |[],_,_=>rfl
 | (n,v)::r,m,h=>by
   unfold bindC
   rw [bindC_out fun w hw=>h w (List.mem_cons_of_mem _ hw)]
   split
   ·rfl
   ·have:x≠n:=by rintro rfl;exact h v List.mem_cons_self
    simp [this]
theorem bindL_get {kindOf:Str->Option NameKind} {x:Str} {v:Value}:∀ {P:List Str} {vs:List Value} {i:Nat} {m:Str->Option Value},P.Nodup->P[i]?=some x->vs[i]?=some v->kindOf x=some .local->
 bindL kindOf (P.zip vs) m x=some v
 |[],_,_,_,_,h,_,_=>by simp at h
 |_::_,[],_,_,_,_,h,_=>by simp at h
 | p::P,w::vs,0,m,nd,h1,h2,hk=>by
   simp at h1 h2;subst h1;subst h2
   show bindL kindOf ((p,w)::P.zip vs) m p=_
   unfold bindL
   rw [bindL_out fun v hv=>(List.nodup_cons.mp nd).1 (List.of_mem_zip hv).1,if_pos hk]
   simp
 | p::P,w::vs,i+1,m,nd,h1,h2,hk=>by
   show bindL kindOf ((p,w)::P.zip vs) m x=_
   unfold bindL
   exact bindL_get (i:=i) (List.nodup_cons.mp nd).2 (by simpa using h1) (by simpa using h2) hk
theorem bindC_get {kindOf:Str->Option NameKind} {x:Str} {v:Value}:∀ {P:List Str} {vs:List Value} {i:Nat} {m:Str->Option Value},P.Nodup->P[i]?=some x->vs[i]?=some v->kindOf x≠some .local->
 bindC kindOf (P.zip vs) m x=some v
 |[],_,_,_,_,h,_,_=>by simp at h
 |_::_,[],_,_,_,_,h,_=>by simp at h
 | p::P,w::vs,0,m,nd,h1,h2,hk=>by
   simp at h1 h2;subst h1;subst h2
   show bindC kindOf ((p,w)::P.zip vs) m p=_
   unfold bindC
   rw [bindC_out fun v hv=>(List.nodup_cons.mp nd).1 (List.of_mem_zip hv).1,if_neg hk]
   simp
 | p::P,w::vs,i+1,m,nd,h1,h2,hk=>by
   show bindC kindOf ((p,w)::P.zip vs) m x=_
   unfold bindC
   exact bindC_get (i:=i) (List.nodup_cons.mp nd).2 (by simpa using h1) (by simpa using h2) hk
def start (N:List Str) (vs:List V):St:=vs.map some++List.replicate (N.length-vs.length) none
def cxOf (CX:CXT) (P:Program) (w:World) (K:PySem.W.Frag) (mg:Str->Option Value) (base:Heap) (N:List Str) (qual:Str) (scope:Scope) (f:Addr) (cd:Value) (A:Around) (outer:List Env) (s:Shared) (H:Hp) (E:XK):Cx where
 prog:=P
 w:=w
 K:=K
 mg:=mg
 base:=base
 A:=A.deeper (envOfC qual scope s.heap.objs.size f cd)
 N:=N
 s₀:=s
 H₀:=H
 env:=envOfC qual scope s.heap.objs.size f cd
 outer:=outer
 stack:=envOfC qual scope s.heap.objs.size f cd::outer
 ex:=[]
 calm:=true
 fn:=fun _=>true
 pn:=[]
 xe:=fun e s'=>wpAny (model P w) (A.deeper (envOfC qual scope s.heap.objs.size f cd)) (leaving (envOfC qual scope s.heap.objs.size f cd) e) (fun _ s''=>CX outer H s E e s'') (fun e' s''=>CX outer H s E e' s'') s'
theorem cell_has {sc:Scope} {n:Nat} {x:Str} (h:sc.names.lookup x=some .cell):∃ c,(cellsFrom n sc.names []).lookup x=some c:=by
 have q:=PySem.W.cellsFrom_some sc.names n [] (.inl h)
 exact Option.isSome_iff_exists.mp q
theorem inv_start {CX:CXT} {P:Program} {w:World} {K:PySem.W.Frag} {mg:Str->Option Value} {base:Heap} {N ps:List Str} {qual:Str} {scope:Scope} {f:Addr} {cd:Value} {A:Around} {outer:List Env} {s s1:Shared} {H:Hp} {E:XK} {us:List Value} {vs:List V}
 (S:FnScope N ps scope) (hd:A.handled=none) (e0:Env0 P w K mg base A outer s H) (hl:vs.length=ps.length) (r:Vals vs us)
 (x:InCallC s s.heap.objs.size (bindL (envOfC qual scope s.heap.objs.size f cd).kindOf (ps.zip us) fun _=>none) (cellsFrom (s.heap.objs.size+1) scope.names []) (bindC (envOfC qual scope s.heap.objs.size f cd).kindOf (ps.zip us) fun _=>none) s1) :
 Inv (cxOf CX P w K mg base N qual scope f cd A outer s H E) [] (start N vs) H s1:=by
 have hpl:ps.length≤N.length:=by have:=congrArg List.length S.pre;rw [List.length_take] at this;omega
 obtain ⟨h1,tk,rfl,hk⟩:=x.done
 have noA:∀ b:Addr,b∉(cxOf CX P w K mg base N qual scope f cd A outer s H E).ex:=fun b z=>absurd (show b∈([]:List Addr) from z) (by simp)
 refine ⟨⟨e0.mod,S.kind,rfl,rfl,Nat.le_refl _,fun y z c h1 h2=>?_,fun y hy=>?_,fun y c _ h=>?_,fun _=>hd,Around.frames_deeper e0.frames,.inr ⟨rfl,rfl⟩,fun b z=>absurd z (noA b),e0.bs,e0.bsz,fun b _ _=>noA b,fun b z=>absurd z (noA b),e0.funs,e0.frf⟩,
  rfl,e0.bare,Un.kept hk,⟨_,x.toInCall.ns,fun i y v h1 h2 h3=>?_⟩,fun y c h=>⟨_,x.cell y c h⟩,e0.hok.fresh (Nat.le_refl _),fun y c h=>?_,fun p hp=>absurd (show p∈([]:List (Addr×Obj)) from hp) (by simp),e0.hok.kept hk,?_⟩
 ·exact name_of_addr x.apart (PySem.mem_of_lookup h1) (PySem.mem_of_lookup h2)
 ·have hy:scope.names.lookup y=some .cell∨scope.names.lookup y=some .free:=hy
  rcases hy with hy|hy
  ·exact cell_has hy
  ·exact absurd rfl (S.nofree _ (PySem.mem_of_lookup hy))
 ·exact Nat.le_of_lt (x.above y c (PySem.mem_of_lookup h))
 ·have hi:i<vs.length:=by
   unfold start at h2
   by_cases hi:i<vs.length
   ·exact hi
   ·rw [List.getElem?_append_right (by simpa using hi)] at h2
    rw [List.getElem?_replicate] at h2
    split at h2 <;> cases h2
  have ha:vs[i]?=some v:=by
   unfold start at h2
   rw [List.getElem?_append_left (by simpa using hi),List.getElem?_map] at h2
   cases e:vs[i]? with
   |none=>rw [e] at h2;cases h2
   |some a=>rw [e] at h2;cases h2;rfl
  obtain ⟨u,hu,rv⟩:=r.get ha
  have hp:ps[i]?=some y:=by
   rw [← S.pre,List.getElem?_take_of_lt (by omega)];exact h1
  have ndP:ps.Nodup:=by rw [← S.pre];exact S.nd.sublist (List.take_sublist _ _)
  refine ⟨u,rv,?_⟩
  rcases S.par y (List.mem_of_getElem? hp) with k|k
  ·exact .inl ⟨k,bindL_get ndP hp hu k⟩
  ·obtain ⟨c,e⟩:=cell_has (n:=s.heap.objs.size+1) k
   refine .inr ⟨.inl k,c,e,?_⟩
   have q:=x.cell y c e
   rw [bindC_get ndP hp hu (by show scope.names.lookup y≠_;rw [k];decide)] at q
   exact q
 ·exact e0.hok.fresh (Nat.le_of_lt (x.above y c (PySem.mem_of_lookup h)))
 ·unfold start
  show _=N.length
  rw [List.length_append,List.length_map,List.length_replicate]
  omega
theorem fn_of {CX:CXT} {P:Program} {w:World} {K:PySem.W.Frag} {mg:Str->Option Value} {base:Heap} {k:Nat} {f:Addr} {name qual:Str} {params:Arguments} {body:List Stmt} {scope:Scope} {dV kV doc pm cdv ct oc:Value} {an od:Option Addr}
 {osl:Array (Option Value)} {N ps:List Str} {sp:Sp} (lk:K.lookup f=some ⟨oc,od,.func (PySem.W.fnOf name qual params body scope dV kV doc pm an cdv ct),osl⟩) (hcd:PySem.W.codeIn K cdv qual=true) (S:FnScope N ps scope)
 (len:∀ vs H Q E,sp vs H Q E->vs.length=ps.length)
 (hbody:∀ (A:Around) (outer:List Env) (s:Shared) (H:Hp) (vs:List V) (Q:VK) (E:XK),Room k (A.deeper (envOfC qual scope s.heap.objs.size f cdv))->sp vs H Q E->
  ∃ t,PSs (cxOf CX P w K mg base N qual scope f cdv A outer s H E) body t/\t { nx:=fun _ H'=>Q .non H',rt:=Q } (start N vs) H) :
 FnOk P w K mg base CX (k+1) f (PySem.W.fnOf name qual params body scope dV kV doc pm an cdv ct) ps sp:=by
 refine ⟨len,fun A outer s H args us vs Q E hr e0 hb r hsp=>?_⟩
 have hl:=len _ _ _ _ hsp
 have KX:K.In s.heap:=e0.mod.kin.keeps fun b o e=>(e0.bs b o e).1
 have lim:s.heap.NoLimit:=e0.mod.nolimit.keeps fun b o e=>(e0.bs b o e).1
 have hkind:∀ y∈ps.zip us,scope.names.lookup y.1=some .local∨(scope.names.lookup y.1=some .cell/\((cellsFrom (s.heap.objs.size+1) scope.names []).lookup y.1).isSome=true):=fun ⟨n,v⟩ hy=>by
  rcases S.par n (List.of_mem_zip hy).1 with q|q
  ·exact .inl q
  ·exact .inr ⟨q,PySem.W.cellsFrom_some _ _ _ (.inl q)⟩
 refine codeAny_call_function hr.depth (KX _ _ lk) rfl S.co S.gen rfl (PySem.W.codeRec_of KX hcd) (hb _ _ _ _ ?_)
 refine wpAny_newFunctionEnv_cells S.kind hkind fun env he s1 x=>?_
 subst he
 refine ⟨lim.keeps x.toInCall.keep,codeAny_func ?_⟩
 obtain ⟨t,ht,hq⟩:=hbody A outer s H vs Q E (hr.deeper _) hsp
 have I:Inv (cxOf CX P w K mg base N qual scope f cdv A outer s H E) [] (start N vs) H s1:=inv_start S hr.hd e0 hl r x
 refine wpAny_mono (ht [] s1 (start N vs) H _ I hq) (fun fl s' hs=>?_) fun e s' hs=>hs
 have fin:∀ {σ':St} {H':Hp} {v:V} {u:Value},Inv (cxOf CX P w K mg base N qual scope f cdv A outer s H E) [] σ' H' s'->RelV v u->Q v H'->CE outer P w H s Q u s':=
  fun {σ' H' v u} J rv q=>⟨v,H',J.os,J.bare,J.base,J.hok,rv,q⟩
 cases fl with
 | ret u=>
   obtain ⟨v,σ',H',J,rv,q⟩:=hs
   exact fin J rv q
 | next=>
   obtain ⟨σ',H',J,q⟩:=hs
   exact fin (v:=V.non) (u:=Value.none) J rfl q
 | brk=>
   obtain ⟨_,_,_,q⟩:=hs
   exact False.elim q
 | cont=>
   obtain ⟨_,_,_,q⟩:=hs
   exact False.elim q
section
variable {X:Cx} {x:Str} {p pos:Pos} {e:Expr} {es:List Expr} {t:TA} {id T:String} {r:List V->Hp->VK->Prop}
def tCB (r:List V->Hp->VK->Prop) (t:TA):TE:=fun σ H Q=>t σ H fun vs H1=>r vs H1 Q
theorem pe_callB (hc:CallR X (.builtin id) r) (hg:Gl X x) (hm:X.mg x=none) (hv:bootBuiltins x=some (.builtin id)) (ha:PA X (e::es) t) (hn:x ≠ "__name__":=by decide) (hdb:(x == ("__debug__" : Str))=false:=by decide)
 (he:starEach (e::es) X.env=(false,eval e X.env)::starEach es X.env:=by rfl) (hpl:(backTo pos (starEach es X.env)).any (·.1)=false:=by rfl):PE X (.Call (.Name x p) (e::es) [] pos) (tCB r t):=by
 intro pins s σ H Q I h
 refine wpAny_Call_Name_kw (ld_blt I hg hm hv ?_ hn hdb)
 exact PyProof.Rows.callWith_builtin1 (thn (ha pos pins s σ H _ I h) fun us s1 ⟨vs,H1,I1,r1,q1⟩=>hc pins s1 σ H1 vs us Q I1 r1 q1) he hpl
theorem pe_callTy (hc:CallR X (.type T) r) (hg:Gl X x) (hm:X.mg x=none) (hv:bootBuiltins x=some (.type T)) (ha:PA X (e::es) t) (hn:x ≠ "__name__":=by decide) (hdb:(x == ("__debug__" : Str))=false:=by decide)
 (he:starEach (e::es) X.env=(false,eval e X.env)::starEach es X.env:=by rfl) (hpl:(backTo pos (starEach es X.env)).any (·.1)=false:=by rfl):PE X (.Call (.Name x p) (e::es) [] pos) (tCB r t):=by
 intro pins s σ H Q I h
 refine wpAny_Call_Name_kw (ld_blt I hg hm hv ?_ hn hdb)
 exact PyProof.Rows.callWith_type1 (thn (ha pos pins s σ H _ I h) fun us s1 ⟨vs,H1,I1,r1,q1⟩=>hc pins s1 σ H1 vs us Q I1 r1 q1) he hpl
end
end L2
namespace HT
open PySem PyProof.Rows
section
open PySem.SeqAt
open PySem.AutoSeq1 (wpAny_loadPart')
open PySem.MeetsSeq PySem.MeetsSeq2 PySem.MeetsSeq3
end
section
variable {prog:Program} {w:World} {A:Around} {E:Value->Shared->Prop} {s:Shared}
def sIx (n d:Nat):Option Int->Nat
 |none=>d
 |some v=>if v<0 then (v+(n:Int)).toNat else min v.toNat n
theorem sIx_none (n d:Nat):sIx n d none=d:=rfl
theorem sIx_nat (n d k:Nat):sIx n d (some (k:Int))=min k n:=by
 show (if (k:Int)<0 then ((k:Int)+(n:Int)).toNat else min (k:Int).toNat n)=min k n
 rw [if_neg (by omega),Int.toNat_natCast]
end
end HT
namespace L2
open PySem PySem.Spec PyProof.Rows
abbrev TO:=St->Hp->(Option Int->Hp->Prop)->Prop
def PO (X:Cx) (e:Option Expr) (t:TO):Prop:=
 ∀ (pins:List (Addr×Obj)) (s:Shared) (σ:St) (H:Hp) (Q:Option Int->Hp->Prop),Inv X pins σ H s->t σ H Q->
   wpAny (model X.prog X.w) X.A (evalPart e X.env) (fun u s'=>∃ o H',Inv X pins σ H' s'/\IsPart u o/\Q o H') X.xe s
def tNoPart:TO:=fun _ H Q=>Q none H
def tPart (t:TE):TO:=fun σ H Q=>t σ H fun x H1=>∃ i,x=.int i/\Q (some i) H1
section
variable {X:Cx} {e:Expr} {te:TE} {lo hi:Option Expr} {tl th:TO} {pos p2:Pos}
theorem po_none:PO X none tNoPart:=by
 intro pins s σ H Q I h
 rw [evalPart_none]
 exact wpAny_pure ⟨none,H,I,.none,h⟩
theorem po_some (h:PE X e te):PO X (some e) (tPart te):=by
 intro pins s σ H Q I hw
 rw [evalPart_some]
 refine thn (h pins s σ H _ I hw) fun u s1 ⟨x,H1,I1,r1,q1⟩=>?_
 obtain ⟨i,rfl,q⟩:=q1
 obtain ⟨t,rfl⟩:=r1
 exact ⟨some i,H1,I1,.int i t,q⟩
def SlR (X:Cx) (r:V->Option Int->Option Int->Hp->VK->Prop):Prop:=
 ∀ (pins:List (Addr×Obj)) (s:Shared) (σ:St) (H:Hp) (x:V) (v vl vu:Value) (lo hi:Option Int) (sl:Addr) (Q:VK),Inv X pins σ H s->RelV x v->s.heap.IsSliceOf sl vl vu .none->IsPart vl lo->IsPart vu hi->r x lo hi H Q->
   ∃ T id,typeLookup (.type T) "__getitem__" = pure (some (.builtin id))/\s.TypeIs v T/\wpAny (model X.prog X.w) X.A (getItem v (.ref sl)) (EP X pins σ Q) X.xe s
def tSl (r:V->Option Int->Option Int->Hp->VK->Prop) (te:TE) (tl th:TO):TE:=fun σ H Q=>te σ H fun x H1=>tl σ H1 fun l H2=>th σ H2 fun u H3=>r x l u H3 Q
theorem pe_slice {r:V->Option Int->Option Int->Hp->VK->Prop} (hr:SlR X r) (he:PE X e te) (hl:PO X lo tl) (hu:PO X hi th):PE X (.Subscript e (.Slice lo hi none p2) pos) (tSl r te tl th):=by
 intro pins s σ H Q I h
 refine Subscript_ (thn (he pins s σ H _ I h) fun v s1 ⟨x,H1,I1,r1,q1⟩=>?_)
 refine wpAny_Slice (thn (hl pins s1 σ H1 _ I1 q1) fun vl s2 ⟨l,H2,I2,pl,q2⟩=>thn (hu pins s2 σ H2 _ I2 q2) fun vu s3 ⟨u,H3,I3,pu,q3⟩=>?_)
 rw [evalPart_none]
 refine wpAny_pure ?_
 have I4:Inv X pins σ H3 { s3 with heap:=s3.heap.push { cls:=.type "slice",data:=.fields #[vl,vu,.none] } }:=I3.kept (t':=s3.toks) fun b ob q=>Heap.get?_push_of_some _ q
 obtain ⟨T,id,hT,ht,hg⟩:=hr pins { s3 with heap:=s3.heap.push { cls:=.type "slice",data:=.fields #[vl,vu,.none] } } σ H3 x v vl vu l u s3.heap.objs.size Q I4 r1 (Heap.IsSliceOf.new ..) pl pu q3
 show wpAny (model X.prog X.w) X.A (subscriptTail e (.Slice lo hi none p2) v (.ref s3.heap.objs.size)) (EP X pins σ Q) X.xe { s3 with heap:=s3.heap.push { cls:=.type "slice",data:=.fields #[vl,vu,.none] } }
 exact tail_any (ops:=[.ref s3.heap.objs.size,v]) ht hT hg (by with_unfolding_all rfl)
def cutV (xs:List V) (lo hi:Option Int):List V:=(xs.drop (HT.sIx xs.length 0 lo)).take (HT.sIx xs.length xs.length hi-HT.sIx xs.length 0 lo)
theorem cutV_length (xs:List V) (lo hi:Option Int):(cutV xs lo hi).length≤xs.length:=by
 unfold cutV
 rw [List.length_take,List.length_drop]
 omega
end
def ixN (n:Nat) (i:Int):Option Nat:=if 0≤i then (if i<n then some i.toNat else none) else if -(n:Int)≤i then some (i+n).toNat else none
def atI {α:Type} (xs:List α) (i:Int):Option α:=(ixN xs.length i).bind fun j=>xs[j]?
theorem ixN_seq {n:Nat} {i:Int} {j:Nat} (h:ixN n i=some j):seqIndex? i n=some j/\j<n/\-(n:Int)≤i/\i<n:=by
 unfold ixN at h
 by_cases h0:0≤i
 ·rw [if_pos h0] at h
  by_cases h1:i<n
  ·rw [if_pos h1] at h
   have e:i.toNat=j:=Option.some.inj h
   exact ⟨by rw [seqIndex_of h0 h1,e],by omega,by omega,h1⟩
  ·rw [if_neg h1] at h;cases h
 ·rw [if_neg h0] at h
  by_cases h1:-(n:Int)≤i
  ·rw [if_pos h1] at h
   have e:(i+n).toNat=j:=Option.some.inj h
   exact ⟨by rw [seqIndex_neg (by omega) h1,e],by omega,h1,by omega⟩
  ·rw [if_neg h1] at h;cases h
theorem atI_get {α:Type} {xs:List α} {i:Int} {v:α} (h:atI xs i=some v):∃ j,seqIndex? i xs.length=some j/\xs[j]?=some v/\j<xs.length/\-(xs.length:Int)≤i/\i<xs.length:=by
 unfold atI at h
 cases e:ixN xs.length i with
 |none=>rw [e] at h;cases h
 | some j=>
   rw [e] at h
   obtain ⟨h1,h2,h3,h4⟩:=ixN_seq e
   exact ⟨j,h1,h,h2,h3,h4⟩
theorem atI_nat {α:Type} {xs:List α} {j:Nat} {v:α} (h:xs[j]?=some v):atI xs (j:Int)=some v:=by
 have hj:j<xs.length:=(List.getElem?_eq_some_iff.mp h).1
 have e:ixN xs.length (j:Int)=some j:=by
  unfold ixN
  rw [if_pos (by omega),if_pos (by omega)];simp
 unfold atI;rw [e];exact h
def PlainIx (b:Expr):Prop:=∀ o i,subscripted b false o i=operate [o,i] (getItem o i)
def IxR (X:Cx) (r:R2):Prop:=
 ∀ (value slice:Expr) (pins:List (Addr×Obj)) (s:Shared) (σ:St) (H:Hp) (x y:V) (v u:Value) (Q:VK),Inv X pins σ H s->RelV x v->RelV y u->r x y H Q->
   subscripted slice false v u=operate [v,u] (getItem v u)->wpAny (model X.prog X.w) X.A (subscriptTail value slice v u) (EP X pins σ Q) X.xe s
def MtR (X:Cx) (id:String) (r:V->List V->Hp->VK->Prop):Prop:=
 ∀ (pins:List (Addr×Obj)) (s:Shared) (σ:St) (H:Hp) (x:V) (xs:List V) (v:Value) (us:List Value) (Q:VK),Inv X pins σ H s->RelV x v->Vals xs us->r x xs H Q->
   wpAny (model X.prog X.w) X.A (call (.builtin id) (v::us)) (EP X pins σ Q) X.xe s
section
variable {X:Cx} {a b:Expr} {ta tb:TE} {pos:Pos}
theorem pe_ix {r:R2} (hr:IxR X r) (ha:PE X a ta) (hb:PE X b tb) (hs:PlainIx b):PE X (.Subscript a b pos) (tOp r ta tb):=by
 intro pins s σ H Q I h
 exact Subscript_ (binT ha hb I h fun v u s2 x y H2 I2 rx ry q=>hr a b pins s2 σ H2 x y v u Q I2 rx ry q (hs _ _))
def rIxL (K:PySem.W.Frag):R2:=fun x y H Q=>∃ p xs i v,x=.ref p/\y=.int i/\SqL K H p xs/\atI xs i=some v/\Q v H
def rIxT (K:PySem.W.Frag):R2:=fun x y H Q=>∃ p xs i v,x=.ref p/\y=.int i/\SqT K H p xs/\atI xs i=some v/\Q v H
def rIxS:R2:=fun x y H Q=>∃ z i c,x=.str z/\y=.int i/\z.length≤sizeLine/\atI z.cps.toList i=some c/\Q (.str ⟨#[c]⟩) H
theorem ix_list:IxR X (rIxL X.K):=by
 intro value slice pins s σ H x y v u Q I rx ry h hs
 obtain ⟨p,xs,i,z,rfl,rfl,hq,he,q⟩:=h
 cases rx
 obtain ⟨t,rfl⟩:=ry
 obtain ⟨its,r,pl,hz⟩:=I.list hq
 obtain ⟨j,h1,h2,h3,h4,h5⟩:=atI_get he
 obtain ⟨w,ew,rw'⟩:=r.get h2
 have hl:=r.length
 have hn:=line63
 have fin:EP X pins σ Q w s:=⟨z,H,I,rw',q⟩
 by_cases h0:0≤i
 ·have hj:i.toNat=j:=by
   rw [seqIndex_of h0 h5] at h1
   exact Option.some.inj h1
  exact item_listR pl.isList h0 (by omega) (by rw [hj];simpa using ew) fin hs
 ·have hj:(i+(its.toArray.size:Int)).toNat=j:=by
   rw [seqIndex_neg (by omega) h4] at h1
   rw [List.size_toArray,← hl]
   exact Option.some.inj h1
  exact subscriptTail_builtinR (x:=w) pl.isList.typeIs slot_list_getitem.lookup
   (wpAny_getItem_list_neg (Q:=fun r s'=>r=w/\EP X pins σ Q r s') pl.isList (by omega) (by rw [List.size_toArray] <;> omega) (by omega) (by rw [hj];simpa using ew) ⟨rfl,fin⟩) hs
theorem ix_tup:IxR X (rIxT X.K):=by
 intro value slice pins s σ H x y v u Q I rx ry h hs
 obtain ⟨p,xs,i,z,rfl,rfl,hq,he,q⟩:=h
 cases rx
 obtain ⟨t,rfl⟩:=ry
 obtain ⟨its,r,pl,hz⟩:=I.tuple hq
 obtain ⟨j,h1,h2,h3,h4,h5⟩:=atI_get he
 obtain ⟨w,ew,rw'⟩:=r.get h2
 have hl:=r.length
 have hn:=line63
 have fin:EP X pins σ Q w s:=⟨z,H,I,rw',q⟩
 exact subscriptTail_builtinR (x:=w) pl.typeIs slot_tuple_getitem.lookup
  (getItem_tuple (j:=j) (Q:=fun r s'=>r=w/\EP X pins σ Q r s') pl (by omega) (by omega) (by rw [List.size_toArray,← hl];exact h1) (by simpa using ew) ⟨rfl,fin⟩) hs
theorem ix_str:IxR X rIxS:=by
 intro value slice pins s σ H x y v u Q I rx ry h hs
 obtain ⟨z,i,c,rfl,rfl,hz,he,q⟩:=h
 obtain ⟨t,rfl⟩:=rx
 obtain ⟨t',rfl⟩:=ry
 obtain ⟨j,h1,h2,h3,h4,h5⟩:=atI_get he
 have hl:z.cps.toList.length=z.length:=by simp [Str.length]
 rw [hl] at h1 h4 h5
 have hn:=line63
 exact tail_any (typeIs_str s z t) slot_str_getitem.lookup (getItem_str (c:=c) (by
  have e1:decide (i < -(2 ^ 63:Int))=false:=decide_eq_false (by omega)
  have e2:decide (i ≥ 2 ^ 63)=false:=decide_eq_false (by omega)
  rw [e1,e2,Bool.or_false]) (by rw [h1];simpa using h2) ⟨.str ⟨#[c]⟩,H,I.tok _,⟨_,rfl⟩,q⟩) hs
theorem slice_bounds (lo hi:Option Int) (n:Nat):(sliceBounds lo hi none n).1=((HT.sIx n 0 lo:Nat):Int)/\(sliceBounds lo hi none n).2.1=((HT.sIx n n hi:Nat):Int)/\(sliceBounds lo hi none n).2.2=1:=by
 refine ⟨?_,?_,rfl⟩
 ·cases lo with
  |none=>simp [sliceBounds,HT.sIx]
  | some i=>
    simp only [sliceBounds,HT.sIx,Option.getD_none,show (1:Int) > 0 by decide,if_true]
    by_cases h:i<0
    ·simp only [h,if_true] <;> omega
    ·simp only [h,if_false] <;> omega
 ·cases hi with
  |none=>simp [sliceBounds,HT.sIx]
  | some i=>
    simp only [sliceBounds,HT.sIx,Option.getD_none,show (1:Int) > 0 by decide,if_true]
    by_cases h:i<0
    ·simp only [h,if_true] <;> omega
    ·simp only [h,if_false] <;> omega
theorem slicePick_cut (its:List Value) (lo hi:Option Int):slicePick its.toArray lo hi none=((its.drop (HT.sIx its.length 0 lo)).take (HT.sIx its.length its.length hi-HT.sIx its.length 0 lo)).toArray:=by
 obtain ⟨h1,h2,h3⟩:=slice_bounds lo hi its.toArray.size
 unfold slicePick
 rw [h1,h2,h3]
 simp only [sliceRange_one,pick_run,List.size_toArray] <;> rfl
def rSlL (K:PySem.W.Frag):V->Option Int->Option Int->Hp->VK->Prop:=fun x lo hi H Q=>∃ a xs,x=.ref a/\SqL K H a xs/\∀ p,H p=none->Q (.ref p) (upd H p (.lst (cutV xs lo hi)))
theorem sl_list:SlR X (rSlL X.K):=by
 intro pins s σ H x v vl vu lo hi sl Q I rx hs pl pu h
 obtain ⟨a,xs,rfl,hx,q⟩:=h
 cases rx
 obtain ⟨its,r,ht,hz⟩:=I.list hx
 have hlen:=r.length
 refine ⟨"list",_,slot_list_getitem.lookup,ht.isList.typeIs,?_⟩
 refine wpAny_getItem_list_slice ht.isList hs pl pu .none (by simp) ?_ (by rw [List.size_toArray] <;> omega)
 rw [slicePick_cut,← hlen]
 refine ⟨.ref s.heap.objs.size,_,I.laid (t':=s.toks) (o:=.lst (cutV xs lo hi)) (fun b ob q=>Heap.get?_push_of_some _ q) (Nat.le_refl _) ?_,rfl,q _ (I.hok.fresh (Nat.le_refl _))⟩
 exact ⟨Nat.le_trans (cutV_length xs lo hi) hz,_,0,(r.drop (HT.sIx xs.length 0 lo)).take (HT.sIx xs.length xs.length hi-HT.sIx xs.length 0 lo),Heap.get?_push_size _ rfl⟩
def flatV:V->Bool
 |.non=>true
 |.bl _=>true
 |.int _=>true
 |.str _=>true
 |_=>false
def eqV:V->V->Bool
 |.non,.non=>true
 |.bl a,.bl b=>a == b
 |.bl a,.int b=>(if a then 1 else 0) == b
 |.int a,.bl b=>a == (if b then 1 else 0)
 |.int a,.int b=>a == b
 |.str a,.str b=>a == b
 |_,_=>false
theorem eqAt_V {A:Around} {s:Shared} {y x:V} {u v:Value} (ry:RelV y u) (rx:RelV x v) (fy:flatV y=true) (fx:flatV x=true):SeqAt.EqAt A s u v (eqV y x):=by
 cases y with
 | non=>
   cases ry
   cases x with
   |non=>cases rx;exact SeqAt.EqAt.same _
   |bl b=>cases rx;exact SeqAt.EqAt.none_bool b
   |int b=>obtain ⟨t,rfl⟩:=rx;exact SeqAt.EqAt.none_int b t
   |str b=>obtain ⟨t,rfl⟩:=rx;exact SeqAt.EqAt.none_str b t
   |_=>exact absurd (show false=true from fx) Bool.false_ne_true
 | bl a=>
   cases ry
   cases x with
   |non=>cases rx;exact SeqAt.EqAt.bool_none a
   |bl b=>cases rx;exact SeqAt.EqAt.bool_bool a b
   |int b=>obtain ⟨t,rfl⟩:=rx;exact SeqAt.EqAt.bool_int a b t
   |str b=>obtain ⟨t,rfl⟩:=rx;exact SeqAt.EqAt.bool_str a b t
   |_=>exact absurd (show false=true from fx) Bool.false_ne_true
 | int a=>
   obtain ⟨t',rfl⟩:=ry
   cases x with
   |non=>cases rx;exact SeqAt.EqAt.int_none a t'
   |bl b=>cases rx;exact SeqAt.EqAt.int_bool a t' b
   |int b=>obtain ⟨t,rfl⟩:=rx;exact SeqAt.EqAt.int_int a t' b t
   |str b=>obtain ⟨t,rfl⟩:=rx;exact SeqAt.EqAt.int_str a t' b t
   |_=>exact absurd (show false=true from fx) Bool.false_ne_true
 | str a=>
   obtain ⟨t',rfl⟩:=ry
   cases x with
   |non=>cases rx;exact SeqAt.EqAt.str_none a t'
   |bl b=>cases rx;exact SeqAt.EqAt.str_bool a t' b
   |int b=>obtain ⟨t,rfl⟩:=rx;exact SeqAt.EqAt.str_int a t' b t
   |str b=>obtain ⟨t,rfl⟩:=rx;exact SeqAt.EqAt.str_str a t' b t
   |_=>exact absurd (show false=true from fx) Bool.false_ne_true
 |_=>exact absurd (show false=true from fy) Bool.false_ne_true
def eqU (x:V) (u:Value):Bool:=match u with
 |.none=>eqV .non x
 |.bool b=>eqV (.bl b) x
 |.int i _=>eqV (.int i) x
 |.str z _=>eqV (.str z) x
 |_=>false
theorem eqU_of {x y:V} {u:Value} (r:RelV y u) (f:flatV y=true):eqU x u=eqV y x:=by
 cases y with
 |non=>cases r;rfl
 |bl b=>cases r;rfl
 |int i=>obtain ⟨t,rfl⟩:=r;rfl
 |str z=>obtain ⟨t,rfl⟩:=r;rfl
 |_=>exact absurd (show false=true from f) Bool.false_ne_true
theorem any_eqU {x:V}:∀ {xs:List V} {us:List Value},Vals xs us->xs.all flatV=true->us.any (eqU x)=xs.any fun y=>eqV y x
 |_,_,.nil,_=>rfl
 | y::xs,u::us,.cons r t,f=>by
   rw [List.all_cons,Bool.and_eq_true] at f
   rw [List.any_cons,List.any_cons,eqU_of r f.1,any_eqU t f.2]
theorem mem_eqAt {A:Around} {s:Shared} {x:V} {v:Value} (rx:RelV x v) (fx:flatV x=true):∀ {xs:List V} {us:List Value},Vals xs us->xs.all flatV=true->∀ u∈us,SeqAt.EqAt A s u v (eqU x u)
 |_,_,.nil,_=>fun u hu=>by cases hu
 | y::xs,u::us,.cons r t,f=>fun u' hu=>by
   rw [List.all_cons,Bool.and_eq_true] at f
   rcases List.mem_cons.mp hu with rfl|hu
   ·rw [eqU_of r f.1];exact eqAt_V r rx f.1 fx
   ·exact mem_eqAt rx fx t f.2 u' hu
def inV (x:V) (xs:List V):Bool:=xs.any fun y=>eqV y x
def rIn (K:PySem.W.Frag) (neg:Bool):R2:=fun x y H Q=>∃ p xs,y=.ref p/\(SqL K H p xs∨SqT K H p xs)/\flatV x=true/\xs.all flatV=true/\Q (.bl (if neg then !inV x xs else inV x xs)) H
theorem op_in_seq:OpR X (compareOp .In) (rIn X.K false):=by
 intro pins s σ H x y v u Q I rx ry h
 obtain ⟨p,xs,rfl,hq,fx,fs,q⟩:=h
 cases ry
 rcases hq with hq|hq
 ·obtain ⟨its,r,pl,hz⟩:=I.list hq
  refine SeqAt.in_listAt (eqU x) pl.isList (fun w hw=>mem_eqAt rx fx r fs w (by simpa using hw)) ⟨.bl _,H,I,rfl,?_⟩
  rw [show its.toArray.any (eqU x)=its.any (eqU x) by simp,any_eqU r fs]
  exact q
 ·obtain ⟨its,r,pl,hz⟩:=I.tuple hq
  refine SeqAt.in_tupleAt (eqU x) pl (fun w hw=>mem_eqAt rx fx r fs w (by simpa using hw)) ⟨.bl _,H,I,rfl,?_⟩
  rw [show its.toArray.any (eqU x)=its.any (eqU x) by simp,any_eqU r fs]
  exact q
theorem call_len_seq:CallR X (.builtin "len") (fun xs H Q=>∃ p ys,xs=[.ref p]/\(SqL X.K H p ys∨SqT X.K H p ys)/\Q (.int ys.length) H):=by
 intro pins s σ H xs us Q I r h
 obtain ⟨p,ys,rfl,hq,q⟩:=h
 obtain ⟨u,rfl,rx⟩:=vals1 r
 cases rx
 have hn:=line63
 rcases hq with hq|hq
 ·obtain ⟨its,r',pl,hz⟩:=I.list hq
  have hlen:=r'.length
  exact Calls.call_len_list pl.isList (by simp only [List.size_toArray] <;> omega) ⟨.int ys.length,H,I.tok _,⟨s.toks+1,by rw [List.size_toArray,hlen]⟩,q⟩
 ·obtain ⟨its,r',pl,hz⟩:=I.tuple hq
  have hlen:=r'.length
  exact len_tuple pl (by simp only [List.size_toArray] <;> omega) ⟨.int ys.length,H,I.tok _,⟨s.toks+1,by rw [List.size_toArray,hlen]⟩,q⟩
theorem call_len_str:CallR X (.builtin "len") (fun xs H Q=>∃ z,xs=[.str z]/\z.length≤sizeLine/\Q (.int z.length) H):=by
 intro pins s σ H xs us Q I r h
 obtain ⟨z,rfl,hz,q⟩:=h
 obtain ⟨u,rfl,t,rfl⟩:=vals1 r
 have hn:=line63
 exact len_str (by omega) ⟨.int z.length,H,I.tok _,⟨_,rfl⟩,q⟩
theorem call_list_of:CallR X (.type "list") (fun xs H Q=>∃ p ys,xs=[.ref p]/\(SqL X.K H p ys∨SqT X.K H p ys)/\∀ l,H l=none->Q (.ref l) (upd H l (.lst ys))):=by
 intro pins s σ H xs us Q I r h
 obtain ⟨p,ys,rfl,hq,q⟩:=h
 obtain ⟨u,rfl,rx⟩:=vals1 r
 cases rx
 have fin:∀ (its:List Value),Vals ys its->ys.length≤sizeLine->∀ (h':Heap) (c':Nat),(∀ b o',s.heap.get? b=some o'->h'.get? b=some o')->
  h'.get? s.heap.objs.size=some { cls:=.type "list",dict:=none,data:=.seq its.toArray c',slots:=#[] }->EP X pins σ Q (.ref s.heap.objs.size) { s with heap:=h' }:=fun its r' hz h' c' kp e=>
  ⟨.ref s.heap.objs.size,_,I.laid (t':=s.toks) kp (Nat.le_refl _) (show ObjOk X.prog X.w _ h' _ (.lst ys) from ⟨hz,its,c',r',e⟩),rfl,q _ (I.hok.fresh (Nat.le_refl _))⟩
 rcases hq with hq|hq
 ·obtain ⟨its,r',pl,hz⟩:=I.list hq
  have hlen:=r'.length
  obtain ⟨o,ho,hc,n,hd⟩:=pl.isList
  exact call_list_seq p (.inl rfl) ho hc hd (fun h' c' kp e=>fin its r' hz h' c' kp e) (by simp only [List.size_toArray] <;> omega)
 ·obtain ⟨its,r',pl,hz⟩:=I.tuple hq
  have hlen:=r'.length
  obtain ⟨o,ho,hc,n,hd⟩:=pl
  exact call_list_seq p (.inr rfl) ho hc hd (fun h' c' kp e=>fin its r' hz h' c' kp e) (by simp only [List.size_toArray] <;> omega)
theorem call_tuple_of:CallR X (.type "tuple") (fun xs H Q=>∃ p ys,xs=[.ref p]/\((SqL X.K H p ys/\∀ l,H l=none->Q (.ref l) (upd H l (.tup ys)))∨(SqT X.K H p ys/\Q (.ref p) H))):=by
 intro pins s σ H xs us Q I r h
 obtain ⟨p,ys,rfl,h⟩:=h
 obtain ⟨u,rfl,rx⟩:=vals1 r
 cases rx
 rcases h with ⟨hq,q⟩|⟨hq,q⟩
 ·obtain ⟨its,r',pl,hz⟩:=I.list hq
  have hlen:=r'.length
  refine call_tuple_list pl.isList (fun h' kp=>?_) (by simp only [List.size_toArray] <;> omega)
  have I1:Inv X pins σ H { s with heap:=h' }:=I.kept (t':=s.toks) kp
  have I2:Inv X pins σ (upd H h'.objs.size (.tup ys)) { s with heap:=h'.push { cls:=.type "tuple",data:=.seq its.toArray } }:=
   I1.laid (t':=s.toks) (fun b o e=>Heap.get?_push_of_some _ e) (Nat.le_refl _) (show ObjOk X.prog X.w _ _ _ (.tup ys) from ⟨hz,its,r',IsTup.new _ _⟩)
  exact ⟨.ref h'.objs.size,_,I2,rfl,q _ (I1.hok.fresh (Nat.le_refl _))⟩
 ·obtain ⟨its,r',pl,hz⟩:=I.tuple hq
  exact call_tuple_same pl ⟨.ref p,H,I,rfl,q⟩
def tyV (K:PySem.W.Frag) (T:String) (x:V) (H:Hp):Prop:=match x with
 |.str _=>T = "str"
 |.int _=>T = "int"
 |.ref p=>(T = "list"/\∃ xs,SqL K H p xs)∨(T = "tuple"/\∃ o,K.lookup p=some o/\o.cls=.type "tuple"/\o.dict=none)∨
  (T = "dict"/\((∃ kvs,H p=some (.dK kvs))∨∃ kvs,H p=some (.dT kvs)))∨(T = "set"/\∃ S n,H p=some (.set S n))
 |_=>False
theorem tyV_is {pins:List (Addr×Obj)} {σ:St} {H:Hp} {s:Shared} {T:String} {x:V} {v:Value} (I:Inv X pins σ H s) (r:RelV x v) (ty:tyV X.K T x H) :
 s.TypeIs v T/\∀ a,v=.ref a->∃ ob,s.heap.get? a=some ob/\ob.dict=none:=by
 cases x with
 | str z=>
   obtain ⟨t,rfl⟩:=r
   cases (show T = "str" from ty)
   exact ⟨typeIs_str s z t,fun _ e=>nomatch e⟩
 | int i=>
   obtain ⟨t,rfl⟩:=r
   cases (show T = "int" from ty)
   exact ⟨typeIs_int s i t,fun _ e=>nomatch e⟩
 | ref p=>
   cases r
   rcases ty with ⟨rfl,xs,hq⟩|⟨rfl,o,hk,hc,hd⟩|⟨rfl,hk⟩|⟨rfl,S,n,hk⟩
   ·obtain ⟨its,_,pl,_⟩:=I.list hq
    refine ⟨pl.isList.typeIs,fun a e=>?_⟩
    cases e
    obtain ⟨o,n,e,c,hd,_⟩:=pl
    exact ⟨o,e,hd⟩
   ·refine ⟨⟨o,I.kIn p o hk,hc⟩,fun a e=>?_⟩
    cases e
    exact ⟨o,I.kIn _ o hk,hd⟩
   ·have z:∃ o,s.heap.get? p=some o/\o.ExactDict:=by
     rcases hk with ⟨kvs,hk⟩|⟨kvs,hk⟩
     ·obtain ⟨_,_,_,_,o,_,_,e,ex,_⟩:=I.hok p _ hk
      exact ⟨o,e,ex⟩
     ·obtain ⟨_,_,_,_,o,_,_,e,ex,_⟩:=I.hok p _ hk
      exact ⟨o,e,ex⟩
    obtain ⟨o,e,ex⟩:=z
    refine ⟨⟨o,e,ex.1⟩,fun a e2=>?_⟩
    cases e2
    exact ⟨o,e,ex.2.1⟩
   ·obtain ⟨o,_,_,_,e,ex,_⟩:=I.hok p _ hk
    refine ⟨⟨o,e,ex.1⟩,fun a e2=>?_⟩
    cases e2
    exact ⟨o,e,ex.2.1⟩
 |_=>exact False.elim ty
def tBM0 (K:PySem.W.Frag) (T:String) (r:V->List V->Hp->VK->Prop) (to:TE):TE:=fun σ H Q=>to σ H fun x H1=>tyV K T x H1/\r x [] H1 Q
def tBM (K:PySem.W.Frag) (T:String) (r:V->List V->Hp->VK->Prop) (to:TE) (t:TA):TE:=fun σ H Q=>to σ H fun x H1=>tyV K T x H1/\t σ H1 fun xs H2=>r x xs H2 Q
variable {o e:Expr} {es:List Expr} {to:TE} {t:TA} {name:Str} {apos cpos:Pos} {T id:String} {r:V->List V->Hp->VK->Prop}
theorem pe_bm0 (pa:PlainAttrs T) (slot:Slot T name id) (hty:typeOf (.builtin id)=pure (.type "method_descriptor")) (hm:MtR X id r) (ho:PE X o to)
 (hbase:attributeBase o name X.env (eval o X.env)=eval o X.env:=by rfl) (hline:(apos.endLine == cpos.line)=true:=by rfl):PE X (.Call (.Attribute o name apos) [] [] cpos) (tBM0 X.K T r to):=by
 intro pins s σ H Q I h
 refine wpAny_Call_method0_late hbase hline (thn (ho pins s σ H _ I h) fun v s1 ⟨x,H1,I1,r1,ty,q1⟩=>?_)
 obtain ⟨h1,h2⟩:=tyV_is I1 r1 ty
 exact ⟨T,id,pa,slot,hty,h1,h2,Calls.callWith_builtin rfl (PySem.evalArgs_none (hm pins s1 σ H1 x [] v [] Q I1 r1 .nil q1))⟩
theorem pe_bm (pa:PlainAttrs T) (slot:Slot T name id) (hty:typeOf (.builtin id)=pure (.type "method_descriptor")) (hm:MtR X id r) (ho:PE X o to) (ha:PA X (e::es) t)
 (hbase:attributeBase o name X.env (eval o X.env)=eval o X.env:=by rfl)
 (hfew:((backTo cpos (starEach (e::es) X.env)).all (fun x=>!x.1) && (backToKw cpos (keywordEach [] X.env)).all (fun x=>x.1.isSome)
  && decide ((e::es).length+([]:List Keyword).length+(if ([]:List Keyword).isEmpty then 0 else 1)<30))=true:=by rfl)
 (hline:(apos.endLine == cpos.line)=true:=by rfl) (hs:starEach (e::es) X.env=(false,eval e X.env)::starEach es X.env:=by rfl) (hplain:(backTo cpos (starEach es X.env)).any (·.1)=false:=by rfl) :
 PE X (.Call (.Attribute o name apos) (e::es) [] cpos) (tBM X.K T r to t):=by
 intro pins s σ H Q I h
 refine wpAny_Call_method_late hbase hfew hline rfl (thn (ho pins s σ H _ I h) fun v s1 ⟨x,H1,I1,r1,ty,q1⟩=>?_)
 obtain ⟨h1,h2⟩:=tyV_is I1 r1 ty
 refine ⟨T,id,pa,slot,hty,h1,h2,?_⟩
 have hA:=ha cpos pins s1 σ H1 _ I1 q1
 rw [hs] at hA ⊢
 refine Calls.callWith_builtin (by show (false || (backTo cpos (starEach es X.env)).any (·.1))=false;rw [hplain] <;> rfl) (Calls.evalArgs_plain ?_)
 exact thn hA fun us s2 ⟨vs,H2,I2,r2,q2⟩=>hm pins s2 σ H2 x vs v us Q I2 r1 r2 q2
end
def MtM (X:Cx) (id:String) (r:V->List V->Hp->VK->Prop):Prop:=
 ∀ (pins:List (Addr×Obj)) (s:Shared) (σ:St) (H:Hp) (x:V) (xs:List V) (v:Value) (us:List Value) (Q:VK),Inv X pins σ H s->RelV x v->Vals xs us->r x xs H Q->
   wpAny (model X.prog X.w) X.A (call (.builtin id) (v::us)) (EP X pins σ Q) X.xe s
theorem Vals.one:∀ {x:V} {us:List Value},Vals [x] us->∃ u,us=[u]/\RelV x u
 |_,_,.cons r .nil=>⟨_,rfl,r⟩
theorem Vals.zero:∀ {us:List Value},Vals [] us->us=[]
 |_,.nil=>rfl
theorem Vals.dropLast {xs:List V} {us:List Value} (h:Vals xs us):Vals xs.dropLast us.dropLast:=by
 induction h with
 |nil=>exact .nil
 | cons r t ih=>
   cases t with
   |nil=>exact .nil
   |cons q t'=>exact .cons r ih
theorem Vals.eraseIdx:∀ {xs:List V} {us:List Value} (i:Nat),Vals xs us->Vals (xs.eraseIdx i) (us.eraseIdx i)
 |_,_,_,.nil=>.nil
 |_,_,0,.cons _ t=>t
 |_,_,i+1,.cons r t=>.cons r (Vals.eraseIdx i t)
theorem erase_last {α:Type} (l:List α):l.eraseIdx (l.length-1)=l.dropLast:=by
 induction l with
 |nil=>rfl
 | cons a r ih=>
   cases r with
   |nil=>rfl
   | cons b r=>
     have e:(a::b::r).length-1=((b::r).length-1)+1:=by
      have h1:(a::b::r).length=r.length+2:=rfl
      have h2:(b::r).length=r.length+1:=rfl
      omega
     rw [e,List.eraseIdx_cons_succ,ih]
     all_goals rfl
theorem len_erase {α:Type}:∀ (l:List α) (i:Nat),(l.eraseIdx i).length≤l.length
 |[],_=>Nat.le_refl _
 |_::_,0=>Nat.le_succ _
 |_::r,i+1=>Nat.succ_le_succ (len_erase r i)
section
variable {X:Cx} {pins:List (Addr×Obj)} {σ:St} {H:Hp} {s:Shared} {l b:Addr} {xs ys zs:List V}
theorem Inv.lset {its its':List Value} {n:Nat} {f:Array Value->Array Value} {t':Nat} (I:Inv X pins σ H s) (hH:H l=some (.lst xs))
 (e:s.heap.get? l=some { cls:=.type "list",data:=.seq its.toArray n }) (hf:f its.toArray=its'.toArray) (hv:Vals ys its') (hz:ys.length≤sizeLine) :
 Inv X pins σ (upd H l (.lst ys)) { s with heap:=s.heap.update l (Obj.mapSeq f),toks:=t' }:=by
 have q:=PySem.IsL.update e f
 rw [hf] at q
 refine I.write (x:=l) (e:=l) (by rw [hH];exact trivial) (.inl rfl) (fun b' u hb hu=>(Heap.get?_update_other s.heap (Obj.mapSeq f) (Ne.symm hb)).trans hu) ⟨_,q⟩ ?_
 exact ⟨hz,its',_,hv,q⟩
theorem Inv.lnew {its:List Value} {t':Nat} (I:Inv X pins σ H s) (hv:Vals ys its) (hz:ys.length≤sizeLine) :
 Inv X pins σ (upd H s.heap.objs.size (.lst ys)) { s with heap:=s.heap.push { cls:=.type "list",data:=.seq its.toArray },toks:=t' }:=
 I.laid (fun _ _ q=>Heap.get?_push_of_some _ q) (Nat.le_refl _) ⟨hz,its,0,hv,Heap.get?_push_size _ rfl⟩
theorem Inv.fresh (I:Inv X pins σ H s):H s.heap.objs.size=none:=I.hok.fresh (Nat.le_refl _)
theorem Inv.lstM (I:Inv X pins σ H s) (hH:H l=some (.lst xs)):xs.length≤sizeLine/\∃ (its:List Value) (n:Nat),Vals xs its/\xs.length=its.length/\s.heap.get? l=some { cls:=.type "list",data:=.seq its.toArray n }:=by
 obtain ⟨z,its,n,r,e⟩:=I.hok l _ hH
 exact ⟨z,its,n,r,r.length,e⟩
theorem notLongL {n:Nat} (h:n≤sizeLine):Builtin.List.listTooLong n=false:=by
 unfold Builtin.List.listTooLong
 exact decide_eq_false (by omega)
end
section
variable {X:Cx}
def rAppend:V->List V->Hp->VK->Prop:=fun x vs H Q=>∃ l xs y,x=.ref l/\vs=[y]/\H l=some (.lst xs)/\xs.length<sizeLine/\Q .non (upd H l (.lst (xs++[y])))
theorem mt_append:MtM X "list.append" rAppend:=by
 intro pins s σ H x vs v us Q I rx rv h
 obtain ⟨l,xs,y,rfl,rfl,hH,hz,q⟩:=h
 cases rx
 obtain ⟨u,rfl,ru⟩:=rv.one
 obtain ⟨z,its,n,r,hl,e⟩:=I.lstM hH
 refine call_meets F.slot_list_append ⟨_,e,rfl⟩ F.entry_list_append (F.args_list_append_2 _ _) (PySem.list_append l its.toArray n u (by rw [List.size_toArray];omega)) ⟨e,?_⟩
 refine ⟨.non,_,I.lset (its':=its++[u]) hH e (by simp) (r.append (.cons ru .nil)) ?_,rfl,q⟩
 rw [List.length_append,List.length_singleton]
 omega
def rExtend:V->List V->Hp->VK->Prop:=fun x vs H Q=>∃ l b xs zs,x=.ref l/\vs=[.ref b]/\H l=some (.lst xs)/\H b=some (.lst zs)/\xs.length+zs.length≤sizeLine/\Q .non (upd H l (.lst (xs++zs)))
theorem mt_extend:MtM X "list.extend" rExtend:=by
 intro pins s σ H x vs v us Q I rx rv h
 obtain ⟨l,b,xs,zs,rfl,rfl,hH,hB,hz,q⟩:=h
 cases rx
 obtain ⟨u,rfl,ru⟩:=rv.one
 cases ru
 obtain ⟨z,its,n,r,hl,e⟩:=I.lstM hH
 obtain ⟨z2,its2,n2,r2,hl2,e2⟩:=I.lstM hB
 have hsz:its.toArray.size+its2.toArray.size≤sizeLine:=by rw [List.size_toArray,List.size_toArray];omega
 have hlong:¬ (!its.toArray.isEmpty && Builtin.List.listTooLong (its.toArray.size+its2.toArray.size))=true:=by
  rw [notLongL hsz,Bool.and_false]
  exact Bool.false_ne_true
 refine call_meets F.slot_list_extend ⟨_,e,rfl⟩ F.entry_list_extend (F.args_list_extend_2 _ _)
  (AutoSeq1.list_extend_list_list_0 l its.toArray n b its2.toArray n2 hlong (by rw [List.size_toArray];omega) (by omega)) ⟨e,e2,?_⟩
 refine ⟨.non,_,I.lset (its':=its++its2) hH e (by simp) (r.append r2) ?_,rfl,q⟩
 rw [List.length_append]
 omega
def rPop:V->List V->Hp->VK->Prop:=fun x vs H Q=>∃ l xs y,x=.ref l/\vs=[]/\H l=some (.lst xs)/\xs[xs.length-1]?=some y/\Q y (upd H l (.lst xs.dropLast))
theorem mt_pop:MtM X "list.pop" rPop:=by
 intro pins s σ H x vs v us Q I rx rv h
 obtain ⟨l,xs,y,rfl,rfl,hH,hy,q⟩:=h
 cases rx
 have hus:=rv.zero
 subst hus
 obtain ⟨z,its,n,r,hl,e⟩:=I.lstM hH
 obtain ⟨u,hu,ru⟩:=r.get hy
 have hy':its.toArray[its.toArray.size-1]?=some u:=by
  show its.toArray[its.length-1]?=some u
  rw [← Array.getElem?_toList,← hl]
  exact hu
 refine call_meets F.slot_list_pop ⟨_,e,rfl⟩ F.entry_list_pop (F.args_list_pop_1 _) (MeetsSeq.list_pop_last l its.toArray n u hy' (by rw [List.size_toArray];omega)) ⟨e,?_⟩
 refine ⟨y,_,I.lset (its':=its.dropLast) hH e ?_ r.dropLast ?_,ru,q⟩
 ·show its.toArray.eraseIdxIfInBounds (its.toArray.size-1)=its.dropLast.toArray
  rw [List.size_toArray,List.eraseIdxIfInBounds_toArray,erase_last]
 ·rw [List.length_dropLast]
  omega
def rPopAt:V->List V->Hp->VK->Prop:=fun x vs H Q=>∃ l xs i k y,x=.ref l/\vs=[.int i]/\H l=some (.lst xs)/\-(2 ^ 63)≤i/\i<2 ^ 63/\seqIndex? i xs.length=some k/\xs[k]?=some y/\Q y (upd H l (.lst (xs.eraseIdx k)))
theorem mt_popAt:MtM X "list.pop" rPopAt:=by
 intro pins s σ H x vs v us Q I rx rv h
 obtain ⟨l,xs,i,k,y,rfl,rfl,hH,h1,h2,hk,hy,q⟩:=h
 cases rx
 obtain ⟨u,rfl,ru⟩:=rv.one
 obtain ⟨t,rfl⟩:=ru
 obtain ⟨z,its,n,r,hl,e⟩:=I.lstM hH
 obtain ⟨w,hw,rw'⟩:=r.get hy
 refine call_meets F.slot_list_pop ⟨_,e,rfl⟩ F.entry_list_pop (F.args_list_pop_2 _ _)
  (MeetsSeq.list_pop_at l its.toArray n i t k w (fitsIndex_both h1 h2) (by rw [List.size_toArray,← hl];exact hk) (by rw [← Array.getElem?_toList];exact hw) (by rw [List.size_toArray];omega)) ⟨e,?_⟩
 refine ⟨y,_,I.lset (its':=its.eraseIdx k) hH e ?_ (r.eraseIdx k) ?_,rw',q⟩
 ·show its.toArray.eraseIdxIfInBounds k=(its.eraseIdx k).toArray
  rw [List.eraseIdxIfInBounds_toArray]
 ·have:=len_erase xs k
  omega
def rCat:R2:=fun x y H Q=>∃ l b xs zs,x=.ref l/\y=.ref b/\H l=some (.lst xs)/\H b=some (.lst zs)/\xs.length+zs.length≤sizeLine/\∀ p,H p=none->Q (.ref p) (upd H p (.lst (xs++zs)))
theorem op_cat:OpR X (binaryOp .Add) rCat:=by
 intro pins s σ H x y v u Q I rx ry h
 obtain ⟨l,b,xs,zs,rfl,rfl,hH,hB,hz,q⟩:=h
 cases rx
 cases ry
 obtain ⟨z,its,n,r,hl,e⟩:=I.lstM hH
 obtain ⟨z2,its2,n2,r2,hl2,e2⟩:=I.lstM hB
 refine PySem.P.add_list e e2 ?_ (by rw [List.size_toArray,List.size_toArray];omega)
 have ea:its.toArray++its2.toArray=(its++its2).toArray:=by simp
 rw [ea]
 exact ⟨.ref _,_,I.lnew (t':=s.toks) (r.append r2) (by rw [List.length_append];omega),rfl,q _ I.fresh⟩
end
section
variable {prog:Program} {w:World} {A:Around} {E:Value->Shared->Prop} {s:Shared}
end
section
variable {X:Cx}
end
section
variable {κ:Type} [DecidableEq κ]
def valV (kvs:List (κ×V)) (k:κ):Option V:=(kvs.find? fun kv=>decide (kv.1=k)).map (·.2)
def putK (kvs:List (κ×V)) (k:κ) (v:V):List (κ×V):=
 if (kvs.any fun kv=>decide (kv.1=k))=true then kvs.map (fun kv=>if kv.1=k then (kv.1,v) else kv) else kvs++[(k,v)]
theorem valV_pos {p:κ×V} {r:List (κ×V)} {k:κ} (e:p.1=k):valV (p::r) k=some p.2:=by simp [valV,List.find?_cons,e]
theorem valV_neg {p:κ×V} {r:List (κ×V)} {k:κ} (e:¬ p.1=k):valV (p::r) k=valV r k:=by simp [valV,List.find?_cons,e]
theorem valV_any (k:κ):∀ kvs:List (κ×V),(kvs.any fun kv=>decide (kv.1=k))=(valV kvs k).isSome
 |[]=>rfl
 | p::r=>by
   rw [List.any_cons]
   by_cases e:p.1=k
   ·simp only [valV_pos e,decide_eq_true e,Bool.true_or,Option.isSome_some]
   ·rw [valV_neg e,decide_eq_false e,Bool.false_or];exact valV_any k r
theorem length_putK (kvs:List (κ×V)) (k:κ) (v:V):(putK kvs k v).length≤kvs.length+1:=by
 unfold putK
 split
 ·rw [List.length_map];omega
 ·rw [List.length_append,List.length_cons,List.length_nil];omega
theorem RelO.isSome_eq {o:Option V} {u:Option Value} (r:RelO o u):o.isSome=u.isSome:=by
 cases o with
 | none=>cases u with
   |none=>rfl
   |some _=>exact (show False from r).elim
 | some _=>cases u with
   |none=>exact (show False from r).elim
   |some _=>rfl
theorem KV.val {kvs:List (κ×V)} {vs:List (κ×Value)} (r:KV kvs vs) (k:κ):RelO (valV kvs k) (valueAt vs k):=by
 unfold KV at r
 induction r with
 |nil=>exact True.intro
 | @cons p q ps qs h t ih=>
   obtain ⟨h1,h2⟩:=h
   by_cases e:p.1=k
   ·have e':q.1=k:=h1.symm.trans e
    have b:valueAt (q::qs) k=some q.2:=by simp [valueAt,List.find?_cons,e']
    rw [valV_pos e,b];exact h2
   ·have e':¬ q.1=k:=fun z=>e (h1.trans z)
    have b:valueAt (q::qs) k=valueAt qs k:=by simp [valueAt,List.find?_cons,e']
    rw [valV_neg e,b];exact ih
theorem KV.any {kvs:List (κ×V)} {vs:List (κ×Value)} (r:KV kvs vs) (k:κ):(kvs.any fun kv=>decide (kv.1=k))=vs.any fun kv=>decide (kv.1=k):=by
 unfold KV at r
 induction r with
 |nil=>rfl
 |cons h t ih=>rw [List.any_cons,List.any_cons,ih,h.1]
theorem KV.repl {kvs:List (κ×V)} {vs:List (κ×Value)} (r:KV kvs vs) (k:κ) {y:V} {u:Value} (ry:RelV y u) :
 KV (kvs.map fun kv=>if kv.1=k then (kv.1,y) else kv) (vs.map fun kv=>if kv.1=k then (kv.1,u) else kv):=by
 unfold KV at r ⊢
 induction r with
 |nil=>exact .nil
 | @cons p q ps qs h t ih=>
   rw [List.map_cons,List.map_cons]
   refine .cons ?_ ih
   obtain ⟨h1,h2⟩:=h
   by_cases e:p.1=k
   ·rw [if_pos e,if_pos (h1.symm.trans e)];exact ⟨h1,ry⟩
   ·rw [if_neg e,if_neg (fun z=>e (h1.trans z))];exact ⟨h1,h2⟩
theorem KV.put {kvs:List (κ×V)} {vs:List (κ×Value)} (r:KV kvs vs) (k:κ) {y:V} {u:Value} (ry:RelV y u):KV (putK kvs k y) (stored vs k u):=by
 unfold putK stored
 rw [r.any k]
 by_cases e:(vs.any fun kv=>decide (kv.1=k))=true
 ·rw [if_pos e,if_pos e];exact r.repl k ry
 ·rw [if_neg e,if_neg e];exact Paired.snoc r ⟨rfl,ry⟩
theorem KV.length {kvs:List (κ×V)} {vs:List (κ×Value)} (r:KV kvs vs):kvs.length=vs.length:=Paired.length r
end
theorem kV_is {P:Program} {w:World} {k:Key} {u:Value} (r:RelV (kV k) u):(mixKind P w).is k u=true:=by
 cases k with
 |inl i=>obtain ⟨t,e⟩:=(show ∃ t,u=Value.int i t from r);subst e;exact mixKind_int P w i t
 |inr x=>obtain ⟨t,e⟩:=(show ∃ t,u=Value.str x t from r);subst e;exact mixKind_str P w x t
theorem items_are {P:Program} {w:World}:∀ {ks:List Key} {us:List Value},Vals (ks.map kV) us->ItemsAre (mixKind P w) ks us
 |[],_,r=>by rw [List.map_nil] at r;cases r;exact .nil
 | k::ks,_,r=>by
   rw [List.map_cons] at r
   cases r with
   |cons h t=>exact .cons (kV_is h) (items_are t)
abbrev KT (H:Hp):List (List Key×V)->List (List Key×Addr×Value)->Prop:=Paired fun p q=>p.1=q.1/\H q.2.1=some (.tup (p.1.map kV))/\RelV p.2 q.2.2
theorem KT.val {H:Hp} {kvs:List (List Key×V)} {xs:List (List Key×Addr×Value)} (r:KT H kvs xs) (k:List Key):RelO (valV kvs k) ((atKey xs k).map (·.2)):=by
 induction r with
 |nil=>exact True.intro
 | @cons p q ps qs h t ih=>
   obtain ⟨h1,_,h2⟩:=h
   by_cases e:p.1=k
   ·have e':q.1=k:=h1.symm.trans e
    have b:atKey (q::qs) k=some q.2:=by simp [atKey,List.find?_cons,e']
    rw [valV_pos e,b];exact h2
   ·have e':¬ q.1=k:=fun z=>e (h1.trans z)
    have b:atKey (q::qs) k=atKey qs k:=by simp [atKey,List.find?_cons,e']
    rw [valV_neg e,b];exact ih
theorem KT.repl {H:Hp} {kvs:List (List Key×V)} {xs:List (List Key×Addr×Value)} (r:KT H kvs xs) (k:List Key) {y:V} {u:Value} (ry:RelV y u) :
 KT H (kvs.map fun kv=>if kv.1=k then (kv.1,y) else kv) (xs.map (putAt k u)):=by
 induction r with
 |nil=>exact .nil
 | @cons p q ps qs h t ih=>
   rw [List.map_cons,List.map_cons]
   refine .cons ?_ ih
   obtain ⟨h1,h2,h3⟩:=h
   unfold putAt
   by_cases e:p.1=k
   ·rw [if_pos e,if_pos (h1.symm.trans e)];exact ⟨h1,h2,ry⟩
   ·rw [if_neg e,if_neg (fun z=>e (h1.trans z))];exact ⟨h1,h2,h3⟩
theorem KT.put {H:Hp} {kvs:List (List Key×V)} {xs:List (List Key×Addr×Value)} (r:KT H kvs xs) (k:List Key) {b:Addr} {y:V} {u:Value} (hb:H b=some (.tup (k.map kV))) (ry:RelV y u) :
 KT H (putK kvs k y) (storedH xs k b u):=by
 have e:(kvs.any fun kv=>decide (kv.1=k))=(atKey xs k).isSome:=by
  rw [valV_any,(r.val k).isSome_eq,Option.isSome_map]
 unfold putK storedH
 rw [e]
 by_cases q:(atKey xs k).isSome=true
 ·rw [if_pos q,if_pos q];exact r.repl k ry
 ·rw [if_neg q,if_neg q];exact Paired.snoc r ⟨rfl,hb,ry⟩
theorem KT.keeps {H H':Hp} {kvs:List (List Key×V)} {xs:List (List Key×Addr×Value)} (r:KT H kvs xs) (ht:∀ b ys,H b=some (.tup ys)->H' b=some (.tup ys)):KT H' kvs xs:=
 Paired.mapP r fun _ _ z=>⟨z.1,ht _ _ z.2.1,z.2.2⟩
section
variable {P:Program} {w:World} {H:Hp} {h:Heap} {a:Addr}
theorem rd_of {u:HO} (ok:HOk P w H h) (e:Rd H a u):ObjOk P w H h a u:=e.ok ok
theorem dk_rd {kvs:List (Key×V)} (ok:HOk P w H h) (e:Rd H a (.dK kvs)):kvs.length≤sizeLine/\(a == sysModules)=false/\∃ vs,KV kvs vs/\h.DictOf (mixKind P w) a vs:=
 show ObjOk P w H h a (.dK kvs) from rd_of ok e
theorem dk_of {kvs:List (Key×V)} (ok:HOk P w H h) (e:H a=some (.dK kvs)):kvs.length≤sizeLine/\(a == sysModules)=false/\∃ vs,KV kvs vs/\h.DictOf (mixKind P w) a vs:=dk_rd ok (.inl e)
theorem key_of {ks:List Key} (ok:HOk P w H h) (e:H a=some (.tup (ks.map kV))):(tupleKind (mixKind P w)).is h ks a:=by
 obtain ⟨_,its,r,o,h1,h2,n,h3⟩:=(show ObjOk P w H h a (.tup (ks.map kV)) from ok a _ e)
 exact ⟨o,its.toArray,n,h1,h2,h3,by simpa using items_are r⟩
theorem dt_rd {kvs:List (List Key×V)} (ok:HOk P w H h) (e:Rd H a (.dT kvs)):kvs.length≤sizeLine/\(a == sysModules)=false/\
 ∃ xs,KT H kvs xs/\h.DictOfH (tupleKind (mixKind P w)) a xs:=by
 obtain ⟨z,y,xs,r,o,es,ep,h1,h2,h3,h4,h5⟩:=(show ObjOk P w H h a (.dT kvs) from rd_of ok e)
 refine ⟨z,y,xs,r,o,es,ep,h1,h2,h3,h4,fun x hx=>?_,h5⟩
 have all:∀ {l:List (List Key×V)} {m:List (List Key×Addr×Value)},KT H l m->∀ x∈m,(tupleKind (mixKind P w)).is h x.1 x.2.1:=by
  intro l m q
  induction q with
  |nil=>intro x hx;exact nomatch hx
  | @cons p q ps qs hq t ih=>
    intro x hx
    rcases List.mem_cons.mp hx with e|hx
    ·subst e
     exact key_of ok (by rw [← hq.1];exact hq.2.1)
    ·exact ih x hx
 exact all r x hx
theorem dt_of {kvs:List (List Key×V)} (ok:HOk P w H h) (e:H a=some (.dT kvs)):kvs.length≤sizeLine/\(a == sysModules)=false/\
 ∃ xs,KT H kvs xs/\h.DictOfH (tupleKind (mixKind P w)) a xs:=dt_rd ok (.inl e)
end
def DGet (H:Hp) (a:Addr) (y:V) (r:Option V):Prop:=
 (∃ kvs k,Rd H a (.dK kvs)/\y=kV k/\r=valV kvs k)∨∃ kvs k b,Rd H a (.dT kvs)/\y=.ref b/\H b=some (.tup (k.map kV))/\r=valV kvs k
def DPut (H:Hp) (a:Addr) (y v:V) (H':Hp):Prop:=
 (∃ kvs k,H a=some (.dK kvs)/\y=kV k/\kvs.length<sizeLine/\H'=upd H a (.dK (putK kvs k v)))∨
 ∃ kvs k b,H a=some (.dT kvs)/\y=.ref b/\H b=some (.tup (k.map kV))/\kvs.length<sizeLine/\H'=upd H a (.dT (putK kvs k v))
theorem DGet.k {H:Hp} {a:Addr} {kvs:List (Key×V)} {k:Key} (e:H a=some (.dK kvs)):DGet H a (kV k) (valV kvs k):=.inl ⟨kvs,k,.inl e,rfl,rfl⟩
theorem DPut.k {H:Hp} {a:Addr} {kvs:List (Key×V)} {k:Key} {v:V} (e:H a=some (.dK kvs)) (hl:kvs.length<sizeLine):DPut H a (kV k) v (upd H a (.dK (putK kvs k v))):=.inl ⟨kvs,k,e,rfl,hl,rfl⟩
section
variable {X:Cx} {pins:List (Addr×Obj)} {σ:St} {H:Hp} {s:Shared} {a:Addr} {y v:V} {u r:Value} {o:Option V} {A:Around} {E:Value->Shared->Prop}
theorem Inv.big (I:Inv X pins σ H s):sysModules<s.heap.objs.size:=by
 have h:mainGlobals<s.heap.objs.size:=(I.mod.glob.keeps I.bk).lt
 exact Nat.lt_trans (by decide) h
theorem d_getItem {Q:Value->Shared->Prop} (hu:A.units+1<cLine) (I:Inv X pins σ H s) (g:DGet H a y (some v)) (ry:RelV y u) (h:∀ w' s',Inv X pins σ H s'->RelV v w'->Q w' s') :
 wpAny (model X.prog X.w) A (getItem (.ref a) u) Q E s:=by
 rcases g with ⟨kvs,k,e,ey,l⟩|⟨kvs,k,b,e,ey,eb,l⟩
 ·subst ey
  obtain ⟨z,hd,vs,rel,dd⟩:=dk_rd I.hok e
  obtain ⟨w',hw,rw'⟩:=RelO.some_of (v:=v) (o:=valueAt vs k) (by rw [l];exact rel.val k)
  exact wpAny_getItem_of (kV_is ry) dd.mapOf hw (h w' _ (I.tok _) rw')
 ·subst ey
  cases (show u=Value.ref b from ry)
  obtain ⟨z,hd,xs,rel,dd⟩:=dt_rd I.hok e
  obtain ⟨w',hw,rw'⟩:=RelO.some_of (v:=v) (o:=(atKey xs k).map (·.2)) (by rw [l];exact rel.val k)
  obtain ⟨p,hp,hp2⟩:=Option.map_eq_some_iff.mp hw
  refine wpAny_getItem_heap (tupleKind_room_in1 hu) (key_of I.hok eb) dd hp ?_
  rw [hp2]
  exact h w' _ (I.tok _) rw'
theorem d_write {h':Heap} {t':Nat} {ob:HO} (I:Inv X pins σ H s) (mu:Mut (H a)) (hs:Heap.SameBut a s.heap h') (he:∃ q,h'.get? a=some q) (new:ObjOk X.prog X.w (upd H a ob) h' a ob) :
 Inv X pins σ (upd H a ob) { s with heap:=h',toks:=t' }:=
 I.write (x:=a) (e:=a) mu (.inl rfl) (fun b q hb z=>(hs.2 b hb).trans z) he new
theorem dk_new {P:Program} {w:World} {H':Hp} {h':Heap} {kvs:List (Key×V)} {vs:List (Key×Value)} (z:kvs.length≤sizeLine) (hd:(a == sysModules)=false) (rel:KV kvs vs) (dd:h'.DictOf (mixKind P w) a vs) :
 ObjOk P w H' h' a (.dK kvs):=⟨z,hd,vs,rel,dd⟩
theorem d_setItem {H':Hp} {Q:Unit->Shared->Prop} (hu:A.units+1<cLine) (I:Inv X pins σ H s) (g:DPut H a y v H') (ry:RelV y u) (rv:RelV v r) (h:∀ s',Inv X pins σ H' s'->Q () s') :
 wpAny (model X.prog X.w) A (setItem (.ref a) u r) Q E s:=by
 rcases g with ⟨kvs,k,e,ey,l,eH⟩|⟨kvs,k,b,e,ey,eb,l,eH⟩
 ·subst ey eH
  obtain ⟨z,hd,vs,rel,dd⟩:=dk_of I.hok e
  have hz:vs.length≤sizeLine:=by rw [← rel.length];exact z
  have hl:(putK kvs k v).length≤sizeLine:=by have:=length_putK kvs k v;omega
  refine wpAny_setItem_pairs (hsz:=hz) (kV_is ry) dd fun h' dd' hs=>h _ ?_
  have he:∃ q,h'.get? a=some q:=let ⟨q,_,_,hq,_⟩:=dd';⟨q,hq⟩
  exact d_write I (by rw [e];exact True.intro) hs he (dk_new hl hd (rel.put k rv) dd')
 ·subst ey eH
  cases (show u=Value.ref b from ry)
  obtain ⟨z,hd,xs,rel,dd⟩:=dt_of I.hok e
  have hz:xs.length≤sizeLine:=by rw [← Paired.length rel];exact z
  have hl:(putK kvs k v).length≤sizeLine:=by have:=length_putK kvs k v;omega
  refine wpAny_setItem_heap (hsz:=hz) (tupleKind_room_in1 hu) (key_of I.hok eb) dd fun h' dd' hs=>h _ ?_
  obtain ⟨q,es,ep,hq,h2,h3,h4,_,h5⟩:=dd'
  refine d_write I (by rw [e];exact True.intro) hs ⟨q,hq⟩ ⟨hl,hd,_,(rel.put k eb rv).keeps fun c ys ec=>?_,q,es,ep,hq,h2,h3,h4,h5⟩
  rw [upd_ne (ne_of ec e (fun z=>nomatch z))]
  exact ec
end
section
variable {X:Cx} {pins:List (Addr×Obj)} {σ:St} {H:Hp} {s:Shared} {a:Addr} {kvs:List (Key×V)} {k:Key} {u:Value} {A:Around} {E:Value->Shared->Prop}
end
def NoSl (i:Expr):Prop:=∀ ov iv,subscripted i false ov iv=operate [ov,iv] (getItem ov iv)
theorem subD_of {prog:Program} {w:World} {A:Around} {E:Value->Shared->Prop} {s:Shared} {env:Env} {value slice:Expr} {pos:Pos} {T id:String} {Q:Value->Shared->Prop}
 (hl:typeLookup (.type T) "__getitem__" = pure (some (.builtin id))) (hs:NoSl slice)
 (h:wpAny (model prog w) A (eval value env) (fun o s₁=>wpAny (model prog w) A (eval slice env) (fun i s₂=>s₂.TypeIs o T/\wpAny (model prog w) A (getItem o i) Q E s₂) E s₁) E s) :
 wpAny (model prog w) A (eval (.Subscript value slice pos) env) Q E s:=by
 refine Subscript_ (wpAny_mono h (fun o s₁ h₁=>wpAny_mono h₁ (fun i s₂ h₂=>?_) fun _ _ x=>x) fun _ _ x=>x)
 obtain ⟨hT,h₂⟩:=h₂
 unfold subscriptTail
 refine wpAny_bind ?_
 rw [getitemInPython_of_ne hT.not_modules]
 refine wpAny_bind (wpAny_specialOf hT hl ?_)
 have fin:wpAny (model prog w) A (subscripted slice false o i) (fun r s₃=>wpAny (model prog w) A (letTemporaryGo value o r >>= fun _=>pure r) Q E s₃) E s₂:=by
  rw [hs o i]
  exact wpAny_operating (wpAny_mono h₂ (fun r s₃ h₃=>wpAny_bind (wpAny_letTemporaryGo (wpAny_pure h₃))) fun _ _ x=>x)
 first
  |exact wpAny_pure (wpAny_bind fin)
  |exact wpAny_bind (wpAny_pure (wpAny_bind fin))
  |exact wpAny_bind fin
theorem dict_typeIs {X:Cx} {pins:List (Addr×Obj)} {σ:St} {H:Hp} {s:Shared} {a:Addr} {y:V} {o:Option V} (I:Inv X pins σ H s) (g:DGet H a y o):s.TypeIs (.ref a) "dict":=by
 rcases g with ⟨kvs,k,e,_,_⟩|⟨kvs,k,b,e,_,_,_⟩
 ·obtain ⟨_,_,vs,_,dd⟩:=dk_rd I.hok e
  exact dd.typeIs
 ·obtain ⟨_,_,xs,_,dd⟩:=dt_rd I.hok e
  exact dd.typeIs
def tDGet (td ty:TE):TE:=fun σ H Q=>td σ H fun x H1=>ty σ H1 fun y H2=>∃ a v,x=.ref a/\DGet H2 a y (some v)/\Q v H2
def sDPut (td ty tv:TE):TS:=fun D σ H=>tv σ H fun v H1=>td σ H1 fun x H2=>ty σ H2 fun y H3=>∃ a H4,x=.ref a/\DPut H3 a y v H4/\D.nx σ H4
section
variable {X:Cx} {o i e value:Expr} {pos pos' tpos:Pos} {td ty tv:TE}
theorem pe_dget (hu:X.A.units+1<cLine) (ho:PE X o td) (hi:PE X i ty) (hs:NoSl i):PE X (.Subscript o i pos) (tDGet td ty):=by
 intro pins s σ H Q I h
 refine subD_of PySem.F.slot_dict_getitem.lookup hs (thn (ho pins s σ H _ I h) fun u s1 ⟨x,H1,I1,rx,q1⟩=>thn (hi pins s1 σ H1 _ I1 q1) fun iv s2 ⟨y,H2,I2,ry,a,v,ex,g,q2⟩=>?_)
 subst ex
 obtain rfl:u=Value.ref a:=rx
 exact ⟨dict_typeIs I2 g,d_getItem hu I2 g ry fun w' s3 I3 rw'=>⟨v,H2,I3,rw',q2⟩⟩
theorem ps_dput (hu:X.A.units+1<cLine) (ho:PE X o td) (hi:PE X i ty) (hv:PE X value tv) (hs:swapsWith value (some (.Subscript o i pos')) pos.line X.env=pure false) :
 PS X (.Assign [.Subscript o i pos'] value pos) (sDPut td ty tv):=by
 intro pins s σ H D I h
 refine wpAny_Assign_Subscript (thn (hv pins s σ H _ I h) fun r s1 ⟨v,H1,I1,rv,q1⟩=>thn (ho pins s1 σ H1 _ I1 q1) fun u s2 ⟨x,H2,I2,rx,q2⟩=>thn (hi pins s2 σ H2 _ I2 q2) fun iv s3 ⟨y,H3,I3,ry,a,H4,ex,g,q3⟩=>?_) hs
 subst ex
 obtain rfl:u=Value.ref a:=rx
 exact d_setItem hu I3 g ry rv fun s4 I4=>⟨σ,H4,I4,q3⟩
end
theorem dk_empty {P:Program} {w:World} {H:Hp} (h:Heap) (hb:sysModules<h.objs.size):ObjOk P w H (h.push { cls:=.type "dict",data:=.dict #[] }) h.objs.size (.dK []):=
 ⟨Nat.zero_le _,beq_eq_false_iff_ne.mpr (Ne.symm (Nat.ne_of_lt hb)),[],.nil,Heap.DictOf.new h⟩
section
variable {X:Cx} {pos:Pos}
end
def tPairs:List (TE×TE)->St->Hp->(List (V×V)->Hp->Prop)->Prop
 |[],_,H,Q=>Q [] H
 |(tk,tv)::r,σ,H,Q=>tk σ H fun x H1=>tv σ H1 fun y H2=>tPairs r σ H2 fun ps H3=>Q ((x,y)::ps) H3
abbrev VV:List (V×V)->List (Value×Value)->Prop:=Paired fun p q=>RelV p.1 q.1/\RelV p.2 q.2
def PPs (X:Cx) (pos:Pos) (keys:List (Option Expr)) (values:List Expr) (trs:List (TE×TE)):Prop:=
 ∀ (pins:List (Addr×Obj)) (s:Shared) (σ:St) (H:Hp) (Q:List (V×V)->Hp->Prop),Inv X pins σ H s->tPairs trs σ H Q->
   wpAny (model X.prog X.w) X.A (evalPairs (pairTrees keys values X.env pos)) (fun vs s'=>∃ ps H',Inv X pins σ H' s'/\VV ps vs/\Q ps H') X.xe s
theorem pps_nil {X:Cx} {pos:Pos}:PPs X pos [] [] []:=fun pins s σ H Q I h=>pairTrees_nil_walk ⟨[],H,I,.nil,h⟩
theorem pps_cons {X:Cx} {pos:Pos} {k v:Expr} {ks:List (Option Expr)} {vs:List Expr} {tk tv:TE} {trs:List (TE×TE)} (hk:PE X k tk) (hv:PE X v tv) (hr:PPs X pos ks vs trs) :
 PPs X pos (some k::ks) (v::vs) ((tk,tv)::trs):=fun pins s σ H Q I h=>
 pairTrees_cons_walk (thn (hk pins s σ H _ I h) fun u s1 ⟨x,H1,I1,rx,q1⟩=>thn (hv pins s1 σ H1 _ I1 q1) fun w2 s2 ⟨y,H2,I2,ry,q2⟩=>
  thn (hr pins s2 σ H2 _ I2 q2) fun ws s3 ⟨ps,H3,I3,rel,q3⟩=>⟨(x,y)::ps,H3,I3,.cons ⟨rx,ry⟩ rel,q3⟩)
def mergeK (kvs more:List (Key×V)):List (Key×V):=more.foldl (fun acc kv=>putK acc kv.1 kv.2) kvs
theorem KV.merge:∀ {more:List (Key×V)} {rs:List (Key×Value)} {kvs:List (Key×V)} {vs:List (Key×Value)},KV more rs->KV kvs vs->KV (mergeK kvs more) (merged vs rs):=by
 intro more rs kvs vs r
 unfold KV at r
 induction r generalizing kvs vs with
 |nil=>intro q;exact q
 | @cons p q ps qs h t ih=>
   intro r0
   have e:KV (putK kvs p.1 p.2) (stored vs q.1 q.2):=by
    have:=r0.put p.1 h.2
    rw [← h.1];exact this
   exact ih e
theorem length_mergeK:∀ (more kvs:List (Key×V)),(mergeK kvs more).length≤kvs.length+more.length
 |[],kvs=>by show kvs.length≤kvs.length+0;omega
 | p::r,kvs=>by
   have h1:=length_mergeK r (putK kvs p.1 p.2)
   have h2:=length_putK kvs p.1 p.2
   show (mergeK (putK kvs p.1 p.2) r).length≤_
   rw [List.length_cons];omega
theorem carries_of {P:Program} {w:World}:∀ {kvs:List (Key×V)} {ws:List (Value×Value)},VV (kvs.map fun kv=>(kV kv.1,kv.2)) ws->∃ rs,Carries (mixKind P w) ws rs/\KV kvs rs
 |[],_,r=>by rw [List.map_nil] at r;cases r;exact ⟨[],True.intro,.nil⟩
 | p::kvs,_,r=>by
   rw [List.map_cons] at r
   cases r with
   | @cons a b as bs h t=>
     obtain ⟨rs,c,q⟩:=carries_of (P:=P) (w:=w) t
     obtain ⟨b1,b2⟩:=b
     exact ⟨(p.1,b2)::rs,⟨kV_is h.1,rfl,c⟩,.cons ⟨rfl,h.2⟩ q⟩
def tDisp (trs:List (TE×TE)):TE:=fun σ H Q=>∀ p,H p=none->tPairs trs σ (upd H p (.dK [])) fun ps H2=>H2 p=some (.dK [])/\∃ kvs:List (Key×V),ps=kvs.map (fun kv=>(kV kv.1,kv.2))/\kvs.length≤15/\Q (.ref p) (upd H2 p (.dK (mergeK [] kvs)))
theorem pe_disp {X:Cx} {pos:Pos} {keys:List (Option Expr)} {values:List Expr} {trs:List (TE×TE)} (h:PPs X pos keys values trs) (hall:keys.all (·.isSome)=true) (hl:keys.length=values.length) (h0:keys≠[])
 (h15:keys.length≤15):PE X (.Dict keys values pos) (tDisp trs):=by
 intro pins s σ H Q I q
 have hn:=I.hok.fresh (Nat.le_refl s.heap.objs.size)
 have I1:=I.laid (a:=s.heap.objs.size) (o:=.dK []) (h':=s.heap.push { cls:=.type "dict",data:=.dict #[] }) (t':=s.toks) (fun _ _ q=>Heap.get?_push_of_some _ q) (Nat.le_refl _) (dk_empty s.heap I.big)
 refine wpAny_Dict_walk (knd:=mixKind X.prog X.w) hall hl h0 h15 (thn (h pins _ σ _ _ I1 (q _ hn)) fun ws s2 ⟨ps,H2,I2,rel,e,kvs,ep,lk,q2⟩=>?_)
 subst ep
 obtain ⟨rs,c,rk⟩:=carries_of (P:=X.prog) (w:=X.w) rel
 obtain ⟨z,hd,vs0,r0,dd⟩:=dk_of I2.hok e
 cases r0
 refine ⟨rs,c,dd,fun h' dd' hs=>⟨.ref s.heap.objs.size,_,?_,rfl,q2⟩⟩
 have hz:(mergeK [] kvs).length≤sizeLine:=by
  have h1:=length_mergeK kvs []
  rw [List.length_nil] at h1
  rw [sizeLine_eq];omega
 have he:∃ q,h'.get? s.heap.objs.size=some q:=let ⟨q,_,_,hq,_⟩:=dd';⟨q,hq⟩
 exact d_write I2 (by rw [e];exact True.intro) hs he (dk_new hz hd (rk.merge .nil) dd')
section
variable {X:Cx} {pins:List (Addr×Obj)} {σ:St} {H:Hp} {s:Shared} {a:Addr} {y d:V} {u r:Value} {o:Option V} {A:Around} {E:Value->Shared->Prop}
end
section
variable {X:Cx} {o e f:Expr} {apos cpos:Pos} {td ty tx:TE}
end
section
variable {X:Cx} {pins:List (Addr×Obj)} {σ:St} {H:Hp} {s:Shared} {a:Addr} {kvs:List (Key×V)} {A:Around} {E:Value->Shared->Prop}
end
section
variable {X:Cx} {pins:List (Addr×Obj)} {σ:St} {H:Hp} {s:Shared} {a:Addr} {y:V} {u:Value} {A:Around} {E:Value->Shared->Prop}
end
end L2
namespace Att
open PySem PySem.W PySem.Calls PyProof.Rows
theorem ints_of_wellAll {P:Params} {h:Heap}:∀ (ns:List Int) (vs:List Value),WellAll P h vs (ns.map WData.int)->IntsAre vs ns:=by
 intro ns
 induction ns with
 | nil=>
   intro vs w
   rw [List.map_nil] at w
   cases w
   exact .nil
 | cons n ns ih=>
   intro vs w
   rw [List.map_cons] at w
   cases w with
   | cons a b=>
     cases a
     exact .cons _ _ (ih _ b)
theorem script_of {l:OpenLaw} {n:Nat} (hn:l.most=some n) {P:Params} {h:Heap} {args:List WData} {vals:List Value}
 (hpre:l.row.toRowW.claim.pre args=true) (hwl:WellAll P h vals args) :
 ∃ a vs ns,vals=[Value.ref a]/\args=[WData.list (ns.map WData.int)]/\h.get? a=some { cls:=.type "list",data:=.seq vs.toArray }/\IntsAre vs ns/\ns.length≤n:=by
 have hsh:WShape.hasAll [] args [.list .int]=true:=(pre_splitW hpre).1
 have hc:l.pre.holds [] { args:=args }=true:=(pre_splitW hpre).2
 obtain ⟨d,r,rfl,h1,h2⟩:=hasAllW_cons hsh
 obtain rfl:=hasAllW_nil h2
 obtain ⟨xs,rfl,h3⟩:=hasW_list h1
 obtain ⟨ns,rfl⟩:=items_int h3
 have hlen:ns.length≤n:=by
  unfold OpenLaw.pre at hc
  have h4:(WTm.not (.lt (.lit (.int (n:Int))) (.len (.arg 0)))).holds [] { args:=[.list (ns.map .int)] }=true:=by
   have h4:=(holds_andW hc).1
   rw [hn] at h4
   exact h4
  have h5:=condW_of h4 (w_not (w_lt w_lit (w_len_list (w_arg rfl))))
  rw [List.length_map] at h5
  refine Nat.le_of_not_lt fun q=>?_
  have q':(n:Int)<((ns.length:Nat):Int):=by omega
  first
   |(rw [decide_eq_true q'] at h5;exact absurd h5 (by decide))
   |(simp at h5;omega)
 cases hwl with
 | cons w1 w2=>
   cases w2
   cases w1 with
   |list ho hall=>exact ⟨_,_,ns,rfl,rfl,ho,ints_of_wellAll ns _ hall,hlen⟩
theorem post_true (l:OpenLaw) (args:List WData):l.row.toRowW.claim.post args (.bool true) args=true:=
 postW_of (r:=l.row.toRowW) (X:=(true == true))
  (show WShape.has [] (.bool true) .bool=true by first|rfl|decide|simp [WShape.has,WShape.arms,WShape.armsAll])
  (show (WTm.eq .res (.lit (.bool true))).value [] { args:=args,res:=some (.bool true),after:=args }=some (.bool (true == true)) from w_eq_bool (w_res rfl) w_lit) rfl
theorem attach_call {l:OpenLaw} {n:Nat} {q:Program} {loose:List Str} {XP:(Str->Option Value)->Heap->Prop} {YP:World->Heap->Prop} {d:DefRec}
 (hn:l.most=some n) (hdf:d.params.defaults=[])
 (call:∀ (w:World) (s₀ s₁:Shared) (mg mb:Str->Option Value) (fa:Addr) (o:Obj) (pm cd doc:Value) (a:Addr) (vs:List Value) (ns:List Int),
  Ground q loose [] XP w s₀ mg mb s₁.heap->YP w s₁.heap->
  s₁.heap.get? fa=some o->o.data=.func (docDef d.name d.params d.body d.scope pm cd doc)->s₁.heap.CodeRec cd d.name->mg d.name=some (.ref fa)->
  s₁.heap.get? a=some { cls:=.type "list",data:=.seq vs.toArray }->IntsAre vs ns->ns.length≤n->s₁.gens=#[]->
  codeAny (model l.prog w) callerA (.call (.ref fa) ⟨[.ref a],[]⟩) (fun r s'=>r=.ok (.ret (.bool true))/\OldK s₁.heap s'.heap/\s'.os=s₁.os/\AllBare s'.gens) s₁) :
 WalkO q loose XP YP l.row.toRowW d [] (fun f vs=>PySem.call f vs):=by
 intro w s₀ s₁ mg mb G Y fa o pm cd doc dV kV ho hd hcd hD hmg hg args vals as hpre hlay hrd hwl hlo
 obtain rfl:dV=.none:=Dflts.none hD hdf
 obtain rfl:kV=.none:=Dflts.noKw hD
 obtain ⟨a,vs,ns,rfl,rfl,hobj,hints,hlen⟩:=script_of hn hpre hwl
 refine enter_call (codeAny_mono (call w s₀ s₁ mg mb fa o pm cd doc a vs ns G Y ho (fd_plain hd) hcd hmg hobj hints hlen hg) fun r s' hq=>?_)
 obtain ⟨rfl,h2,h3,h4⟩:=hq
 exact ⟨.inl ⟨.bool true,.bool true,[],rfl,fun _=>rfl,.bool true,post_true l _,fun _=>⟨List.Pairwise.nil,fun _ hm=>(nomatch hm)⟩⟩,h2,h3,h4⟩
section
variable {prog:Program} {w:World} {A:Around} {E:Value->Shared->Prop} {s:Shared} {K:Frag}
end
end Att
namespace L2
open PySem PySem.Spec PyProof.Rows
theorem vals_ints:∀ {vs:List Value} {ns:List Int},IntsAre vs ns->Vals (ns.map V.int) vs
 |_,_,.nil=>.nil
 |_,_,.cons n t h=>.cons ⟨t,rfl⟩ (vals_ints h)
def Only (H:Hp):Prop:=∀ b,H b=none∨∃ o xs,H b=some (.frz o (.lst xs))
theorem law_call {P:Program} {w:World} {K:PySem.W.Frag} {mg mb:Str->Option Value} {CX:CXT} {k:Nat} {fa a:Addr} {fd:FuncData} {x:Str} {sp:Sp} {s₁:Shared} {vs:List Value} {ns:List Int}
 (KX:K.In s₁.heap) (hns:s₁.heap.Ns mainGlobals mg) (hb:s₁.heap.Ns builtinsNs mb) (hbb:∀ x:Str,x ≠ "__name__"->mb x=bootBuiltins x) (hlim:s₁.heap.NoLimit) (hg:s₁.gens=#[])
 (ha:s₁.heap.get? a=some { cls:=.type "list",data:=.seq vs.toArray }) (hi:IntsAre vs ns) (hl:ns.length≤sizeLine) (hr:Room k callerA)
 (F:∀ base:Heap,K.In base->base.Ns mainGlobals mg->FnOk P w K mg base CX k fa fd [x] sp) (hbind:∀ (s:Shared) (u:Value),BindsTo s fd ⟨[u],[]⟩ [(x,u)])
 (hsp:∀ H:Hp,Only H->SqL K H a (ns.map V.int)->sp [.ref a] H (fun v _=>v=.bl true) fun _ _ _=>False)
 (hCX:∀ H e s',CX [] H s₁ (fun _ _ _=>False) e s'->False) :
 codeAny (model P w) callerA (.call (.ref fa) ⟨[.ref a],[]⟩) (fun r s'=>r=.ok (.ret (.bool true))/\OldK s₁.heap s'.heap/\s'.os=s₁.os/\AllBare s'.gens) s₁:=by
 have rv:=vals_ints hi
 have lenV:=hi.length
 have core:∀ H:Hp,Only H->SqL K H a (ns.map V.int)->HOk P w H s₁.heap->(∀ b,H b≠none->b=a)->(H a≠none->K.lookup a=none)->
  codeAny (model P w) callerA (.call (.ref fa) ⟨[.ref a],[]⟩) (fun r s'=>r=.ok (.ret (.bool true))/\OldK s₁.heap s'.heap/\s'.os=s₁.os/\AllBare s'.gens) s₁:=by
  intro H hO hS hok hA hK
  have base_of:∀ {b:Addr} {o:Obj},s₁.heap.get? b=some o->H b=none->(hidT s₁.heap H).get? b=some o:=fun e n=>hidT_get e n
  have noA:∀ {b:Addr} {o:Obj} {es:Array DictEntry} {ep:Nat},s₁.heap.get? b=some o->o.data=.dict es ep->H b=none:=fun {b o es ep} e d=>by
   cases q:H b with
   |none=>rfl
   | some u=>
     have e':b=a:=hA b (by rw [q];simp)
     subst e'
     rw [ha] at e;cases e
     have d':Data.seq vs.toArray _=Data.dict es ep:=d
     cases d'
  have nsK:∀ {b:Addr} {m:Str->Option Value},s₁.heap.Ns b m->(hidT s₁.heap H).Ns b m:=fun {b m} ⟨o,es,ep,e,d,r⟩=>⟨o,es,ep,base_of e (noA e d),d,r⟩
  have hKb:K.In (hidT s₁.heap H):=fun b o e=>base_of (KX b o e) (by
   cases q:H b with
   |none=>rfl
   | some u=>
     have e':b=a:=hA b (by rw [q];simp)
     subst e'
     rw [hK (by rw [q];simp)] at e;cases e)
  have hM:Mod K mg (hidT s₁.heap H):=⟨hKb,nsK hns,⟨mb,nsK hb,hbb⟩,let ⟨mc,h1,h2⟩:=hlim;⟨mc,nsK h1,h2⟩⟩
  have e0:Env0 P w K mg (hidT s₁.heap H) callerA [] s₁ H:=⟨rfl,hM,fun b o e=>of_hidT e,Nat.le_of_eq (hidT_size _ _),trivial,fun b hb=>absurd (show b∈([]:List Addr) from hb) (by simp),hok,.of_eq hg⟩
  refine codeAny_mono ((F _ hKb (nsK hns)).run callerA [] s₁ H ⟨[.ref a],[]⟩ [.ref a] [.ref a] _ _ hr e0 (hbind s₁ (.ref a)) (.cons rfl .nil) (hsp H hO hS)) fun r s' h=>?_
  cases r with
  |error e=>exact (hCX H e s' h).elim
  | ok fl=>
    cases fl with
    |next=>exact False.elim h
    |brk=>exact False.elim h
    |cont=>exact False.elim h
    | ret u=>
      obtain ⟨v,H',os,bare,un,hok',r',q⟩:=h
      have q':v=.bl true:=q
      subst q'
      obtain rfl:u=Value.bool true:=r'
      refine ⟨rfl,OldK.of_keep fun b o e=>?_,os,bare⟩
      cases q:H b with
      |none=>exact un.keep b o e q (by intro z;exact absurd (show b∈([]:List Addr) from z) (by simp)) (by simp)
      | some u=>
        rcases hO b with z|⟨ob,xs,z⟩
        ·rw [q] at z;cases z
        ·have z2:=un.frzs b ob _ z
         obtain ⟨e1,_⟩:=hok b _ z
         obtain ⟨e2,_⟩:=hok' b _ z2
         rw [e] at e1;cases e1
         exact e2
 cases hk:K.lookup a with
 | some o=>
   have e:=KX a o hk
   rw [ha] at e
   cases e
   refine core (fun _=>none) (fun _=>.inl rfl) (.inr ⟨_,vs.toArray,_,hk,rfl,rfl,rfl,by rw [List.size_toArray,lenV];exact hl,by simpa using rv⟩) (fun b u z=>by have z':(none:Option HO)=some u:=z;cases z') (fun b z=>absurd rfl z) fun z=>absurd rfl z
 | none=>
   refine core (fun b=>if b=a then some (.frz { cls:=.type "list",data:=.seq vs.toArray } (.lst (ns.map V.int))) else none) (fun b=>?_) (.inl (.inr ⟨{ cls:=.type "list",data:=.seq vs.toArray },if_pos rfl⟩)) (fun b u z=>?_) (fun b z=>?_) fun _=>hk
   ·by_cases hb:b=a
    ·exact .inr ⟨_,_,if_pos hb⟩
    ·exact .inl (if_neg hb)
   ·by_cases hb:b=a
    ·have z':=(if_pos hb).symm.trans z
     cases z'
     subst hb
     exact ⟨ha,by rw [List.length_map];exact hl,vs,_,rv,ha⟩
    ·have z':=(if_neg hb).symm.trans z
     cases z'
   ·by_cases hb:b=a
    ·exact hb
    ·exact absurd (if_neg hb) z
theorem walk_of {l:PySem.W.OpenLaw} {n k:Nat} {q:Program} {loose:List Str} {XP:(Str->Option Value)->Heap->Prop} {YP:World->Heap->Prop} {d:DefRec} {K:Params->PySem.W.Frag} {CX:World->CXT} {sp:World->Sp} {x:Str}
 (hn:l.most=some n) (hn2:n≤sizeLine) (hdf:d.params.defaults=[]) (hr:Room k callerA)
 (hY:∀ (w:World) (h:Heap),YP w h->(K w.params).In h)
 (F:∀ (w:World) (mg:Str->Option Value) (fa:Addr) (h:Heap),(K w.params).In h->h.Ns mainGlobals mg->mg d.name=some (.ref fa)->
  ∃ fd:FuncData,(∀ (s:Shared) (u:Value),BindsTo s fd ⟨[u],[]⟩ [(x,u)])/\
    ∀ base:Heap,(K w.params).In base->base.Ns mainGlobals mg->FnOk l.prog w (K w.params) mg base (CX w) k fa fd [x] (sp w))
 (hsp:∀ (w:World) (H:Hp) (a:Addr) (ns:List Int),ns.length≤n->Only H->SqL (K w.params) H a (ns.map V.int)->sp w [.ref a] H (fun v _=>v=.bl true) fun _ _ _=>False)
 (hCX:∀ (w:World) (H:Hp) (s:Shared) (e:Value) (s':Shared),CX w [] H s (fun _ _ _=>False) e s'->False) :
 PySem.W.WalkO q loose XP YP l.row.toRowW d [] (fun f vs=>PySem.call f vs):=by
 refine Att.attach_call hn hdf fun w s₀ s₁ mg mb fa o pm cd doc a vs ns G Y ho hd hcd hmg hobj hints hlen hg=>?_
 have KX:=hY w _ Y
 obtain ⟨fd,hb,hF⟩:=F w mg fa _ KX G.T.g hmg
 exact law_call KX G.T.g G.T.b G.T.builtins G.T.nolimit hg hobj hints (Nat.le_trans hlen hn2) hr hF hb (fun H hO hS=>hsp w H a ns hlen hO hS) fun H e s'=>hCX w H s₁ e s'
def inClass (s:Stmt) (j:Nat):Stmt:=match s with
 |.ClassDef _ _ _ body _ _ _ _ _ _ _=>body.getD j (.Pass ⟨0,0,0,0⟩)
 |_=>.Pass ⟨0,0,0,0⟩
def defArgs (s:Stmt):Arguments:=match s with
 |.FunctionDef _ a _ _ _ _ _ _ _ _=>a
 |_=>{ posonlyargs:=[],args:=[],vararg:=none,kwonlyargs:=[],kw_defaults:=[],kwarg:=none,defaults:=[] }
def defBody (s:Stmt):List Stmt:=match s with
 |.FunctionDef _ _ b _ _ _ _ _ _ _=>b
 |_=>[]
def defScope (s:Stmt):Scope:=match s with
 |.FunctionDef _ _ _ _ _ _ sc _ _ _=>sc
 |_=>{ kind:=.function,names:=[],isGenerator:=false,isCoroutine:=false }
abbrev CX0:CXT:=fun _ _ _ _ _ _=>False
abbrev E0:XK:=fun _ _ _=>False
theorem pass0 {X:Cx}:Passes CX0 X E0:=fun _ _ _ _ _ _ _ h=>h.elim
structure Fun (K:PySem.W.Frag) (x qual:Str) (st:Stmt) (f:Addr) (fd:FuncData):Prop where
 ex:∃ (oc:Value) (od:Option Addr) (kV doc pm:Value) (an:Option Addr) (cdv ct:Value) (osl:Array (Option Value)),
  fd=PySem.W.fnOf x qual (defArgs st) (defBody st) (defScope st) .none kV doc pm an cdv ct/\K.lookup f=some ⟨oc,od,.func fd,osl⟩/\PySem.W.codeIn K cdv qual=true
 kp:PySem.W.keepIn K (.ref f)=true
section
variable {P:Program} {w:World} {K:PySem.W.Frag} {mg:Str->Option Value} {base:Heap}
theorem Fun.ok {x qual:Str} {st:Stmt} {f:Addr} {fd:FuncData} {N ps:List Str} {k:Nat} {sp:Sp} (F:Fun K x qual st f fd) (S:FnScope N ps (defScope st)) (len:∀ vs H Q E,sp vs H Q E->vs.length=ps.length)
 (hbody:∀ (cdv:Value) (A:Around) (outer:List Env) (s:Shared) (H:Hp) (vs:List V) (Q:VK) (E:XK),Room k (A.deeper (envOfC qual (defScope st) s.heap.objs.size f cdv))->sp vs H Q E->
  ∃ t,PSs (cxOf CX0 P w K mg base N qual (defScope st) f cdv A outer s H E).nox (defBody st) t/\t { nx:=fun _ H'=>Q .non H',rt:=Q } (start N vs) H):FnOk P w K mg base CX0 (k+1) f fd ps sp:=by
 obtain ⟨oc,od,kV,doc,pm,an,cdv,ct,osl,rfl,lk,hcd⟩:=F.ex
 refine fn_of lk hcd S len fun A outer s H vs Q E hr hsp=>?_
 obtain ⟨t,h,q⟩:=hbody cdv A outer s H vs Q E hr hsp
 exact ⟨t,h.nox,q⟩
theorem Fun.binds {x qual:Str} {st:Stmt} {f:Addr} {fd:FuncData} {ps:List Str} (F:Fun K x qual st f fd)
 (h:∀ (kV doc pm:Value) (an:Option Addr) (cdv ct:Value) (us:List Value),us.length=ps.length->bindArgs (PySem.W.fnOf x qual (defArgs st) (defBody st) (defScope st) .none kV doc pm an cdv ct) ⟨us,[]⟩=pure (ps.zip us)):Binds K fd ps []:=by
 obtain ⟨oc,od,kV,doc,pm,an,cdv,ct,osl,rfl,lk,hcd⟩:=F.ex
 exact .all (h kV doc pm an cdv ct)
theorem fun_mk {x qual:Str} {st:Stmt} {f:Addr} {oc:Value} {od an:Option Addr} {osl:Array (Option Value)} {kV doc pm cdv ct:Value} (l:K.lookup f=some ⟨oc,od,.func (PySem.W.fnOf x qual (defArgs st) (defBody st) (defScope st) .none kV doc pm an cdv ct),osl⟩)
 (c:PySem.W.codeIn K cdv qual=true) (k:PySem.W.keepIn K (.ref f)=true):Fun K x qual st f (PySem.W.fnOf x qual (defArgs st) (defBody st) (defScope st) .none kV doc pm an cdv ct):=⟨⟨oc,od,kV,doc,pm,an,cdv,ct,osl,rfl,l,c⟩,k⟩
end
theorem hu_of {A:Around} {k:Nat} (hr:Room k A):A.units+1<cLine:=Nat.lt_of_le_of_lt (Nat.add_le_add_left (by decide:1≤64) _) hr.units
theorem small1000 {n:Nat} (h:n≤1000):n<sizeLine:=Nat.lt_of_le_of_lt h (by decide)
section
variable {X:Cx}
theorem pv (i:Nat) {x:Str} {pos:Pos} (hN:X.N[i]?=some x:=by rfl) (hv:Vis X.env.scope x:=by first|exact Or.inl rfl|exact Or.inr (Or.inl rfl)|exact Or.inr (Or.inr rfl)) (hd:(x == ("__debug__" : Str))=false:=by decide)
 (hcd:(x == ("__classdict__" : Str))=false:=by decide):PE X (.Name x pos) (tVar i):=pe_var hN hv hd hcd
end
theorem ite2 {c A B:Prop} [Decidable c] (h1:c->A) (h2:¬ c->B):if c then A else B:=by
 by_cases h:c
 ·rw [if_pos h]
  exact h1 h
 ·rw [if_neg h]
  exact h2 h
def Same (H H':Hp):Prop:=∀ b o,H b=some o->H' b=some o
theorem Same.refl (H:Hp):Same H H:=fun _ _ h=>h
theorem Same.trans {H H1 H2:Hp} (a:Same H H1) (b:Same H1 H2):Same H H2:=fun c o h=>b c o (a c o h)
theorem Same.free {H H':Hp} (e:Same H H') {l:Addr} (h:H' l=Option.none):H l=Option.none:=by
 cases q:H l with
 |none=>rfl
 | some o=>
   rw [e l o q] at h
   cases h
theorem Same.seq {K:PySem.W.Frag} {H H':Hp} {a:Addr} {xs:List V} (e:Same H H') (h:SqL K H a xs):SqL K H' a xs:=by
 rcases h with (h|⟨o,h⟩)|h
 ·exact .inl (.inl (e _ _ h))
 ·exact .inl (.inr ⟨o,e _ _ h⟩)
 ·exact .inr h
section
variable {X:Cx}
end
section
variable {κ:Type} [DecidableEq κ]
theorem nd_snoc:∀ {l:List κ} {k:κ},l.Nodup->¬ k∈l->(l++[k]).Nodup
 |[],k,_,_=>by simp
 | a::r,k,h,hk=>by
   obtain ⟨h1,h2⟩:=List.nodup_cons.mp h
   show (a::(r++[k])).Nodup
   refine List.nodup_cons.mpr ⟨fun m=>?_,nd_snoc h2 fun m=>hk (List.mem_cons.mpr (Or.inr m))⟩
   rcases List.mem_append.mp m with q|q
   ·exact h1 q
   ·exact hk (List.mem_cons.mpr (Or.inl (List.mem_singleton.mp q).symm))
end
theorem closure_ok {env:Env} (scope:Scope) (h:∀ y∈scope.names,y.2=.free->∃ c,env.cells.lookup y.1=some c) :
 ∃ cl,closureFor scope env=pure cl/\(∀ x c,cl.lookup x=some c->env.cells.lookup x=some c)/\∀ x,(x,NameKind.free)∈scope.names->∃ c,cl.lookup x=some c:=by
 have go:∀ (names:List (Str×NameKind)) (acc:List (Str×Addr)),(∀ y∈names,y.2=.free->∃ c,env.cells.lookup y.1=some c)->(∀ x c,acc.lookup x=some c->env.cells.lookup x=some c)->
  ∃ cl,(forIn names acc fun x cs=>(match x with
    |(name,kind)=>if kind == NameKind.free then (do let c ← cellOf env name;pure (ForInStep.yield ((name,c)::cs))) else pure (ForInStep.yield cs):Sem (ForInStep (List (Str×Addr)))))=pure cl/\
    (∀ x c,cl.lookup x=some c->env.cells.lookup x=some c)/\(∀ x,(x,NameKind.free)∈names∨(∃ c,acc.lookup x=some c)->∃ c,cl.lookup x=some c):=by
  intro names
  induction names with
  |nil=>intro acc _ ha;exact ⟨acc,rfl,ha,fun x z=>z.elim (fun q=>nomatch q) id⟩
  | cons y r ih=>
    intro acc hy ha
    obtain ⟨n,k⟩:=y
    by_cases hk:k=.free
    ·subst hk
     obtain ⟨c,hc⟩:=hy (n,.free) List.mem_cons_self rfl
     obtain ⟨cl,e,h1,h2⟩:=ih ((n,c)::acc) (fun z hz=>hy z (List.mem_cons_of_mem _ hz)) (fun x c' hx=>by
      rw [List.lookup_cons] at hx
      by_cases q:x == n
      ·rw [q] at hx
       cases hx
       rw [beq_iff_eq.mp q];exact hc
      ·rw [Bool.not_eq_true] at q
       rw [q] at hx
       exact ha x c' hx)
     refine ⟨cl,?_,h1,fun x z=>h2 x ?_⟩
     ·rw [List.forIn_cons]
      simp only [beq_self_eq_true,if_true,cellOf,hc]
      exact e
     ·have aux:∀ x,(∃ c',acc.lookup x=some c')->∃ c',((n,c)::acc).lookup x=some c':=fun x ⟨c',z⟩=>by
       rw [List.lookup_cons]
       by_cases q:x == n
       ·rw [q];exact ⟨_,rfl⟩
       ·rw [Bool.not_eq_true] at q
        rw [q];exact ⟨c',z⟩
      rcases z with z|z
      ·rcases List.mem_cons.mp z with z|z
       ·cases z
        exact .inr ⟨c,by rw [List.lookup_cons,beq_self_eq_true]⟩
       ·exact .inl z
      ·exact .inr (aux x z)
    ·have hb:(k == NameKind.free)=false:=by simpa using hk
     obtain ⟨cl,e,h1,h2⟩:=ih acc (fun z hz=>hy z (List.mem_cons_of_mem _ hz)) ha
     refine ⟨cl,?_,h1,fun x z=>h2 x ?_⟩
     ·rw [List.forIn_cons]
      simp only [hb,Bool.false_eq_true,if_false]
      exact e
     ·rcases z with z|z
      ·rcases List.mem_cons.mp z with z|z
       ·cases z
        exact absurd rfl hk
       ·exact .inl z
      ·exact .inr z
 obtain ⟨cl,e,h1,h2⟩:=go scope.names [] h (fun x c z=>by simp at z)
 refine ⟨cl,?_,h1,fun x z=>h2 x (.inl z)⟩
 unfold closureFor
 exact (congrArg (fun (m:Sem (List (Str×Addr)))=>m >>= fun cs=>pure cs) e).trans rfl
def cxComp (X:Cx) (scope:Scope) (N':List Str) (cl:List (Str×Addr)) (C:Addr) (s₀:Shared) (H₀:Hp) (ex:List Addr):Cx where
 prog:=X.prog
 w:=X.w
 K:=X.K
 mg:=X.mg
 base:=X.base
 A:=X.A
 N:=N'
 s₀:=s₀
 H₀:=H₀
 env:=compEnvC scope cl C X.env
 outer:=X.stack
 stack:=X.stack
 ex:=ex
 fn:=fun _=>false
 calm:=X.calm
 pn:=[]
 xe:=fun _ _=>False
def compSt (k:Nat) (js:List Nat) (σ:St):St:=List.replicate k none++js.map fun j=>(σ[j]?).join
theorem compSt_len (k:Nat) (js:List Nat) (σ:St):(compSt k js σ).length=k+js.length:=by simp [compSt]
structure CompScope (X:Cx) (scope:Scope) (own:List Str) (js:List Nat) (N':List Str):Prop where
 kind:scope.kind=.function
 nocell:∀ y∈scope.names,y.2≠.cell
 names:∀ y∈scope.names,y.2=.local->scope.names.lookup y.1=some .local
 free:∀ y∈scope.names,y.2=.free->X.env.kindOf y.1=some .cell∨X.env.kindOf y.1=some .free
 nm:N'=own++js.map fun j=>X.N.getD j Str.empty
 fr:∀ j∈js,j<X.N.length/\(X.N.getD j Str.empty,NameKind.free)∈scope.names/\∀ k,(X.N.getD j Str.empty,k)∈scope.names->k=.free
theorem lookup_mem_free {names:List (Str×NameKind)} {x:Str} (h:(x,NameKind.free)∈names) (u:∀ k,(x,k)∈names->k=.free):names.lookup x=some .free:=by
 induction names with
 |nil=>cases h
 | cons y r ih=>
   obtain ⟨n,k⟩:=y
   rw [List.lookup_cons]
   by_cases q:x == n
   ·rw [q]
    have e:x=n:=beq_iff_eq.mp q
    subst e
    rw [u k List.mem_cons_self]
   ·rw [Bool.not_eq_true] at q
    rw [q]
    refine ih ?_ fun k hk=>u k (List.mem_cons_of_mem _ hk)
    rcases List.mem_cons.mp h with z|z
    ·cases z
     rw [beq_self_eq_true] at q;cases q
    ·exact z
theorem relabel_mem {scope:Scope} {env:Env} {x:Str} {k:NameKind} (h:(x,k)∈(relabel scope env).names) (hk:k=.cell∨k=.free) (hc:∀ y∈scope.names,y.2≠.cell):(x,NameKind.free)∈scope.names:=by
 unfold relabel at h
 obtain ⟨⟨n,k'⟩,hm,e⟩:=List.mem_map.mp h
 dsimp only at e
 by_cases q:(k' == NameKind.free && env.scope.kind == .function && env.kindOf n == some .cell)=true
 ·rw [if_pos q] at e
  cases e
  rw [Bool.and_eq_true,Bool.and_eq_true] at q
  have:k'=.free:=by simpa using q.1.1
  rw [← this];exact hm
 ·rw [if_neg q] at e
  cases e
  rcases hk with z|z
  ·exact absurd z (hc _ hm)
  ·rw [← z];exact hm
theorem lookup_relabel_free {env:Env} {x:Str}:∀ {names:List (Str×NameKind)},names.lookup x=some .free->
 (names.map fun (n,k)=>if (k == NameKind.free && env.scope.kind == .function && env.kindOf n == some .cell) then (n,NameKind.cell) else (n,k)).lookup x=some .cell∨
 (names.map fun (n,k)=>if (k == NameKind.free && env.scope.kind == .function && env.kindOf n == some .cell) then (n,NameKind.cell) else (n,k)).lookup x=some .free
 |[],h=>by simp at h
 | (n,k)::r,h=>by
   have ih:=@lookup_relabel_free env x r
   rw [List.lookup_cons] at h
   rw [List.map_cons]
   dsimp only
   by_cases q:x == n
   ·rw [q] at h
    cases h
    by_cases c:(NameKind.free == NameKind.free && env.scope.kind == .function && env.kindOf n == some .cell)=true
    ·rw [if_pos c,List.lookup_cons,q];exact .inl rfl
    ·rw [if_neg c,List.lookup_cons,q];exact .inr rfl
   ·rw [Bool.not_eq_true] at q
    rw [q] at h
    by_cases c:(k == NameKind.free && env.scope.kind == .function && env.kindOf n == some .cell)=true
    ·rw [if_pos c,List.lookup_cons,q];exact ih h
    ·rw [if_neg c,List.lookup_cons,q];exact ih h
section
variable {X:Cx} {pins:List (Addr×Obj)} {σ:St} {H:Hp} {s:Shared}
theorem Inv.comp {scope:Scope} {own:List Str} {js:List Nat} {N':List Str} {cl:List (Str×Addr)} {C:Addr} {h₁:Heap} {tk:Nat} {fp:List Addr} {m:Str->Option Value} (S:CompScope X scope own js N') (I:Inv X pins σ H s)
 (hc1:∀ x c,cl.lookup x=some c->X.env.cells.lookup x=some c) (hc2:∀ x,(x,NameKind.free)∈scope.names->∃ c,cl.lookup x=some c) (hC:s.heap.objs.size≤C) (hns:h₁.Ns C m) (hk:∀ b o,s.heap.get? b=some o->h₁.get? b=some o)
 (hf:∀ b∈fp,FpOk X pins H b/\b<s.heap.objs.size) (hHC:H C=none) (hfree:∀ b o,s.heap.get? b=some o->b≠C) :
 Inv (cxComp X scope N' cl C s H fp) [] (compSt own.length js σ) H { s with heap:=h₁,toks:=tk }:=by
 have ltx:∀ b o,X.s₀.heap.get? b=some o->b∉X.ex->b∉fp:=fun b o e hx hb=>by
  rcases (hf b hb).1.2.2.2.1 with z|z
  ·exact hx z
  ·exact absurd (Nat.lt_of_lt_of_le (Heap.lt_size e) z) (Nat.lt_irrefl _)
 refine ⟨⟨I.ok.mod,S.kind,I.ok.glob,I.ok.blt,hC,fun x y c h1 h2=>I.ok.inj x y c (hc1 x c h1) (hc1 y c h2),fun x hx=>?_,fun x c z=>(nomatch z),I.ok.hd,I.ok.frames,.inl rfl,fun b hb=>⟨Nat.ne_of_lt (Nat.lt_of_lt_of_le (hf b hb).2 hC),fun x c e=>(hf b hb).1.2.2.2.2.1 x c (hc1 x c e)⟩,I.bs,Nat.le_trans I.ok.bsz I.sz,fun b o e=>ltx b o (I.ok.bs b o e).1 (I.ok.noex b o e),fun b hb z=>?_,I.stack,I.stkFree⟩,
  rfl,I.bare,Un.kept hk,⟨m,hns,fun i x v e1 e2 e3=>?_⟩,fun x c e=>?_,hHC,fun x c e=>I.freeC x c (hc1 x c e),fun p hp=>absurd (show p∈([]:List (Addr×Obj)) from hp) (by simp),I.hok.kept hk,?_⟩
 ·have hx':(relabel scope X.env).names.lookup x=some .cell∨(relabel scope X.env).names.lookup x=some .free:=hx
  rcases hx' with z|z
  ·exact hc2 x (relabel_mem (PySem.mem_of_lookup z) (.inl rfl) S.nocell)
  ·exact hc2 x (relabel_mem (PySem.mem_of_lookup z) (.inr rfl) S.nocell)
 ·obtain ⟨_,f1,f2,_⟩:=(hf b hb).1
  rcases List.mem_cons.mp (I.stkSub b z) with q|q
  ·exact f1 q
  ·exact f2 q
 ·
  unfold compSt at e2
  by_cases hi:i<own.length
  ·rw [List.getElem?_append_left (by simpa using hi),List.getElem?_replicate] at e2
   split at e2 <;> cases e2
  ·rw [List.getElem?_append_right (by simpa using hi),List.length_replicate,List.getElem?_map] at e2
   cases ej:js[i-own.length]? with
   |none=>rw [ej] at e2;cases e2
   | some j=>
     rw [ej] at e2
     have e2':(σ[j]?).join=some v:=by simpa using e2
     have hσ:σ[j]?=some (some v):=by
      cases q:σ[j]? with
      |none=>rw [q] at e2';cases e2'
      |some o=>rw [q] at e2';exact congrArg some e2'
     have hj:=S.fr j (List.mem_of_getElem? ej)
     have hx:x=X.N.getD j Str.empty:=by
      have e1':N'[i]?=some x:=e1
      rw [S.nm,List.getElem?_append_right (by omega),List.getElem?_map,ej] at e1'
      exact (Option.some.inj e1').symm
     have hN:X.N[j]?=some x:=by
      rw [hx,List.getD_eq_getElem?_getD,List.getElem?_eq_getElem hj.1];rfl
     have hfr:scope.names.lookup x=some .free:=by rw [hx];exact lookup_mem_free hj.2.1 hj.2.2
     have hkx:=S.free (x,.free) (by rw [hx];exact hj.2.1) rfl
     have hvis:Vis X.env.scope x:=hkx.elim (fun z=>.inr (.inl z)) fun z=>.inr (.inr z)
     obtain ⟨mX,hnX,hlX⟩:=I.loc
     obtain ⟨u,r,l⟩:=hlX j x v hN hσ hvis
     refine ⟨u,r,.inr ⟨lookup_relabel_free hfr,?_⟩⟩
     rcases l with ⟨z,_⟩|⟨_,c,hc,hcell⟩
     ·rcases hkx with q|q
      ·have:=q.symm.trans z;cases this
      ·have:=q.symm.trans z;cases this
     ·obtain ⟨c',hc'⟩:=hc2 x (by rw [hx];exact hj.2.1)
      have:c'=c:=Option.some.inj ((hc1 x c' hc').symm.trans hc)
      subst this
      obtain ⟨o,ho,hd⟩:=hcell
      exact ⟨c',hc',o,hk _ _ ho,hd⟩
 ·obtain ⟨v,o,ho,hd⟩:=I.cell x c (hc1 x c e)
  exact ⟨v,o,hk _ _ ho,hd⟩
 ·rw [compSt_len]
  show _=N'.length
  rw [S.nm];simp
end
def PIfs (Y:Cx) (ifs:List Expr) (t:TT):Prop:=
 ∀ (pins:List (Addr×Obj)) (s:Shared) (σ:St) (H:Hp) (Q:Bool->Hp->Prop),Inv Y pins σ H s->t σ H Q->
   wpAny (model Y.prog Y.w) Y.A (forIn ifs true fun c r=>if r=true then do let ok ← isTrue c Y.env (eval c Y.env);pure (ForInStep.yield ok) else pure (ForInStep.yield r)) (TP Y pins σ Q) Y.xe s
def tYes:TT:=fun _ H Q=>Q true H
theorem pifs_nil {Y:Cx}:PIfs Y [] tYes:=fun _ _ _ H _ I h=>wpAny_tests_nil ⟨H,I,h⟩
theorem pifs_one {Y:Cx} {c:Expr} {t:TT} (h:PT Y c t):PIfs Y [c] t:=fun pins s σ H Q I hw=>wpAny_tests_one (h pins s σ H Q I hw)
abbrev accObj (us:List Value) (k:Nat):Obj:={ cls:=.type "list",data:=.seq us.toArray k }
def CTurn (J:It) (g:TG) (tt:TT) (te:TE) (F:List V->Hp->Prop) (W:Nat->Nat->List V->St->Hp->Prop):Prop:=
 ∀ i m ys σ H,W i m ys σ H->(J.stop i H/\F ys H)∨(J.go i H/\ys.length<sizeLine/\∀ x H1,J.yld i H x H1->g x σ H1 fun σ2 H2=>tt σ2 H2 fun b H3=>
   if b=true then te σ2 H3 fun y H4=>∃ m',m'<m/\W (i+1) m' (ys++[y]) σ2 H4 else ∃ m',m'<m/\W (i+1) m' ys σ2 H3)
theorem comp_loop {X:Cx} {scope:Scope} {N':List Str} {cl:List (Str×Addr)} {C acc it:Addr} {s₂:Shared} {H₂:Hp} {fp:List Addr} {tn:Nat->Heap->Prop} {J:It} {g:TG} {tt:TT} {te:TE} {F:List V->Hp->Prop}
 {elt tg iter:Expr} {ifs:List Expr} {pos:Pos} {R:Result->Shared->Prop} (W:Nat->Nat->List V->St->Hp->Prop) (turn:CTurn J g tt te F W) (T:Turn X.prog X.w X.K tg J fp it tn)
 (hg:PG (cxComp X scope N' cl C s₂ H₂ fp) tg g) (hc:PIfs (cxComp X scope N' cl C s₂ H₂ fp) ifs tt) (he:PE (cxComp X scope N' cl C s₂ H₂ fp) elt te) (hcalm:X.calm=true)
 (hfp:∀ b∈fp,b≠C/\b∉frs X.stack/\(∀ x c,cl.lookup x=some c->c≠b)/\b≠acc) (hacc:acc≠C/\acc∉frs X.stack/\(∀ x c,cl.lookup x=some c->c≠acc)/\s₂.heap.objs.size≤acc)
 (hR:∀ s' σ' H' ys us k,Inv (cxComp X scope N' cl C s₂ H₂ fp) [(acc,accObj us k)] σ' H' s'->Vals ys us->F ys H'->R (.ok .next) s')
 {s:Shared} {σ:St} {H:Hp} {m:Nat} (I:Inv (cxComp X scope N' cl C s₂ H₂ fp) [(acc,accObj [] 0)] σ H s) (st:tn 0 s.heap) (fr:∀ b∈fp,H b=none) (w0:W 0 m [] σ H) :
 codeAny (model X.prog X.w) X.A (.compLoop (.ListComp elt [⟨tg,iter,ifs,0⟩] scope pos) 0 (.ref it) (.ref acc) (compEnvC scope cl C X.env)) R s:=by
 refine codeAny_loop rfl (fun n s'=>∃ i ys us k σ' H',Vals ys us/\Inv (cxComp X scope N' cl C s₂ H₂ fp) [(acc,accObj us k)] σ' H' s'/\tn i s'.heap/\(∀ b∈fp,H' b=none)/\W i n ys σ' H') (fun n s3 hI=>?_) m ⟨0,[],[],0,σ,H,.nil,I,st,fr,w0⟩
 obtain ⟨i,ys,us,k,σ3,H3,rv,I3,st3,fr3,w3⟩:=hI
 show wpAny _ X.A ((compTurn (.ListComp elt [⟨tg,iter,ifs,0⟩] scope pos) 0 (.ref it) (.ref acc) (compEnvC scope cl C X.env)).onRaise (fun x=>do noteFrame x (compEnvC scope cl C X.env);theTreesLotGoes x)) _ _ s3
 refine wpAny_noted ?_
 rw [compTurn_list]
 have fpk:∀ {pins:List (Addr×Obj)} {H':Hp},(∀ p∈pins,p.1=acc∨p.1∈([]:List Addr))->(∀ b∈fp,H' b=none)->∀ b∈fp,FpOk (cxComp X scope N' cl C s₂ H₂ fp) pins H' b:=fun hp hn b hb=>
  ⟨hn b hb,(hfp b hb).1,(hfp b hb).2.1,.inl hb,(hfp b hb).2.2.1,fun p hp'=>by
   have hp'':p∈([]:List (Addr×Obj))++_:=hp'
   rcases hp p (by simpa using hp'') with z|z
   ·rw [z];exact Ne.symm (hfp b hb).2.2.2
   ·exact (nomatch z)⟩
 have fp1:=fpk (pins:=[(acc,accObj us k)]) (fun p hp=>.inl (by simp at hp;rw [hp])) fr3
 refine wpAny_bind (wpAny_standAt (wpAny_bind ?_))
 rcases turn i n ys σ3 H3 w3 with ⟨stop,qn⟩|⟨go,hz,step⟩
 ·refine wpAny_mono (T.done (cxComp X scope N' cl C s₂ H₂ fp) rfl rfl rfl hcalm i _ s3 σ3 H3 (fun _ _=>False) I3 fp1 st3 stop) (fun r s4 ⟨hr,I4⟩=>?_) (fun _ _ z=>z.elim)
  subst hr
  exact wpAny_pure (hR s4 σ3 H3 ys us k I4 rv qn)
 ·refine wpAny_mono (T.item (cxComp X scope N' cl C s₂ H₂ fp) rfl rfl rfl hcalm i _ s3 σ3 H3 (fun _ _=>False) I3 fp1 st3 go) (fun r s4 ⟨u,hr,h4⟩=>?_) (fun _ _ z=>z.elim)
  subst hr
  refine wpAny_bind (wpAny_mono h4 (fun _ s5 ⟨x,H5,I5,r5,y5,st5,fr5⟩=>?_) (fun _ _ z=>z.elim))
  have fp5:=fpk (pins:=[(acc,accObj us k)]) (fun p hp=>.inl (by simp at hp;rw [hp])) fr5
  have I5':=I5.pinned fp5 (T.obj _ _ st5)
  refine wpAny_bind (wpAny_mono (hg _ s5 σ3 H5 x u _ I5' r5 (step x H5 y5)) (fun _ s6 ⟨σ6,H6,I6,q6⟩=>?_) (fun _ _ z=>z.elim))
  refine wpAny_bind (wpAny_mono (hc _ s6 σ6 H6 _ I6 q6) (fun ok s7 ⟨H7,I7,q7⟩=>?_) (fun _ _ z=>z.elim))
  have again:∀ {s8:Shared} {σ8:St} {H8:Hp} {us8:List Value} {k8:Nat} {ys8:List V},Inv (cxComp X scope N' cl C s₂ H₂ fp) ([(acc,accObj us k)]++pinsAt fp s5.heap) σ8 H8 s8->tn (i+1) s8.heap/\∀ b∈fp,H8 b=none:=fun {s8 σ8 H8 us8 k8 ys8} I8=>
   ⟨T.keep _ _ _ st5 fun b hb o e=>(I8.pin (b,o) (List.mem_append_right _ (List.mem_append_right _ (mem_pinsAt hb e)))).1,fun b hb=>by
    obtain ⟨o,e,d⟩:=T.obj _ _ st5 b hb
    exact (I8.pin (b,o) (List.mem_append_right _ (List.mem_append_right _ (mem_pinsAt hb e)))).2.1⟩
  cases ok with
  | false=>
    rw [if_neg Bool.false_ne_true] at q7
    obtain ⟨m',hm,w7⟩:=q7
    obtain ⟨t1,t2⟩:=again (us8:=us) (k8:=k) (ys8:=ys) I7
    exact wpAny_pure ⟨rfl,m',hm,i+1,ys,us,k,σ6,H7,rv,I7.unpinned,t1,t2,w7⟩
  | true=>
    rw [if_pos rfl] at q7
    refine wpAny_bind (wpAny_bind (wpAny_mono (he _ s7 σ6 H7 _ I7 q7) (fun y s8 ⟨yv,H8,I8,r8,m',hm,w8⟩=>?_) (fun _ _ z=>z.elim)))
    obtain ⟨t1,t2⟩:=again (us8:=us) (k8:=k) (ys8:=ys) I8
    obtain ⟨e8,n8,l8,f8,d8⟩:=I8.pin (acc,accObj us k) (List.mem_append_right _ (List.mem_append_left _ List.mem_cons_self))
    have hlen:=rv.length
    have hz':us.toArray.size≤sizeLine:=by rw [List.size_toArray];omega
    refine wpAny_bind (call_meets PySem.F.slot_list_append ⟨_,e8,rfl⟩ PySem.F.entry_list_append (PySem.F.args_list_append_2 _ _) (PySem.list_append acc us.toArray k y hz') ⟨e8,?_⟩)
    have q:=PySem.IsL.update e8 (fun z=>z.push y)
    have I9:Inv (cxComp X scope N' cl C s₂ H₂ fp) [] σ6 H8 s8:=I8.pins_of fun p hp=>(nomatch hp)
    have I10:=I9.turned (t':=s8.toks) (it:=acc) (h':=s8.heap.update acc (Obj.mapSeq fun z=>z.push y)) (fun b o hb e=>(Heap.get?_update_other s8.heap _ (Ne.symm hb)).trans e) n8 hacc.1 (.inr hacc.2.2.2) hacc.2.2.1 (fun p hp=>(nomatch hp))
    have e':(us.toArray.push y)=(us++[y]).toArray:=by simp
    rw [e'] at q
    obtain ⟨k9,ek⟩:∃ k9,k9=(if ((us++[y]).toArray.size == us.toArray.size)=true then k else k+1):=⟨_,rfl⟩
    rw [← ek] at q
    have I11:=I10.pins_of (pins':=[(acc,accObj (us++[y]) k9)]) fun p hp=>by
     obtain rfl:p=(acc,accObj (us++[y]) k9):=by simpa using hp
     exact ⟨q,n8,hacc.1,hacc.2.1,fun v z=>by cases z⟩
    refine wpAny_pure (wpAny_pure ⟨rfl,m',hm,i+1,ys++[yv],us++[y],k9,σ6,H8,rv.append (.cons r8 .nil),I11,T.keep _ _ _ t1 fun b hb o e=>?_,t2,w8⟩)
    exact (Heap.get?_update_other s8.heap _ (hfp b hb).2.2.2.symm).trans e
def tComp (wi:TI) (g:TG) (tt:TT) (te:TE) (k:Nat) (js:List Nat):TE:=fun σ H Q=>wi σ H fun J H1=>∃ W:Nat->Nat->List V->St->Hp->Prop,(∃ m,W 0 m [] (compSt k js σ) H1)/\
 CTurn J g tt te (fun ys H2=>ys.length≤sizeLine/\∀ p,H2 p=none->Q (.ref p) (upd H2 p (.lst ys))) W
section
variable {X:Cx} {scope:Scope} {own:List Str} {js:List Nat} {N':List Str} {wi:TI} {g:TG} {tt:TT} {te:TE} {elt tg iter:Expr} {ifs:List Expr} {pos:Pos}
theorem comp_run {pins:List (Addr×Obj)} {σ:St} {H:Hp} {s:Shared} {it:Addr} {fp:List Addr} {tn:Nat->Heap->Prop} {J:It} {cl:List (Str×Addr)} {F:List V->Hp->Prop} {E:Value->Shared->Prop} {RR:Value->Addr->Result->Shared->Prop}
 (S:CompScope X scope own js N') (hcalm:X.calm=true) (hg:∀ cl C s₀ H₀ ex,PG (cxComp X scope N' cl C s₀ H₀ ex) tg g) (hc:∀ cl C s₀ H₀ ex,PIfs (cxComp X scope N' cl C s₀ H₀ ex) ifs tt) (he:∀ cl C s₀ H₀ ex,PE (cxComp X scope N' cl C s₀ H₀ ex) elt te)
 (hc1:∀ x c,cl.lookup x=some c->X.env.cells.lookup x=some c) (hc2:∀ x,(x,NameKind.free)∈scope.names->∃ c,cl.lookup x=some c)
 (I:Inv X pins σ H s) (T:Turn X.prog X.w X.K tg J fp it tn) (st:tn 0 s.heap) (hf:∀ b∈fp,FpOk X pins H b) (W:Nat->Nat->List V->St->Hp->Prop) {m0:Nat} (w0:W 0 m0 [] (compSt own.length js σ) H) (turn:CTurn J g tt te F W)
 (hF:∀ ys H',F ys H'->ys.length≤sizeLine)
 (fin:∀ acc C H' ys s' m,Inv X pins σ (upd H' acc (.lst ys)) s'->H' acc=none->s'.heap.Ns C m->(upd H' acc (.lst ys)) C=none->C≠X.env.locals->X.s₀.heap.objs.size≤C->(∀ x c,X.env.cells.lookup x=some c->c≠C)->(∀ p∈X.pn++pins,p.1≠C)->F ys H'->RR (.ref acc) C (.ok .next) s') :
 wpAny (model X.prog X.w) X.A (newList []) (fun acc s₃=>wpAny (model X.prog X.w) X.A (newFunctionEnv scope X.env.globals cl [] X.env.qual none .none (some X.env)) (fun cenv s₄=>
  codeAny (model X.prog X.w) X.A (.compStart (.ListComp elt [⟨tg,iter,ifs,0⟩] scope pos) 0 (.ref it) acc { cenv with scope:=relabel scope X.env }) (RR acc cenv.locals) s₄) E s₃) E s:=by
 refine wpAny_newObj_type (wpAny_newFunctionEnv S.nocell (by intro y hy;simp at hy) (fun h₁ hns₁ hsb₁=>?_) S.kind)
 dsimp only at hns₁ hsb₁ ⊢
 generalize hH2:s.heap.push { cls:=.type "list",dict:=none,data:=.seq ([]:List Value).toArray }=H2 at hns₁ hsb₁ ⊢
 have hC:H2.objs.size=s.heap.objs.size+1:=by rw [← hH2,Heap.size_push]
 have hDC:s.heap.objs.size≠H2.objs.size:=by rw [hC];exact Nat.ne_of_lt (Nat.lt_succ_self _)
 have hCle:s.heap.objs.size≤H2.objs.size:=by rw [hC];exact Nat.le_succ _
 have below:∀ b,b<s.heap.objs.size->b≠H2.objs.size/\b≠s.heap.objs.size:=fun b hb=>⟨by rw [hC];exact Nat.ne_of_lt (Nat.lt_succ_of_lt hb),Nat.ne_of_lt hb⟩
 have old:∀ b o,s.heap.get? b=some o->h₁.get? b=some o:=fun b o e=>hsb₁.extBut b o (below b (Heap.lt_size e)).1 (Heap.get?_push_of_some _ (hH2 ▸ Heap.get?_push_of_some _ e))
 have hacc:h₁.get? s.heap.objs.size=some (accObj [] 0):=hsb₁.extBut _ _ hDC (Heap.get?_push_of_some _ (hH2 ▸ Heap.get?_push_size _ rfl))
 generalize hCn:H2.objs.size=C at *
 generalize hAn:s.heap.objs.size=acc at *
 have cellLt:∀ x c,X.env.cells.lookup x=some c->c<acc:=fun x c e=>by
  obtain ⟨v,q⟩:=I.cell x c e
  rw [← hAn];exact q.lt
 have pinLt:∀ p∈X.pn++pins,p.1<acc:=fun p hp=>by rw [← hAn];exact Heap.lt_size (I.pin p hp).1
 have stkLt:∀ b∈frs X.stack,b<acc:=fun b hb=>by
  obtain ⟨_,o,ho,_⟩:=I.stack.mem hb
  rw [← hAn];exact Heap.lt_size ho
 have fpLt:∀ b∈fp,b<acc:=fun b hb=>by
  obtain ⟨o,e,_⟩:=T.obj _ _ st b hb
  rw [← hAn];exact Heap.lt_size e
 have hHC:H C=none:=I.hok.fresh (by rw [hAn];exact hCle)
 have hHA:H acc=none:=I.hok.fresh (by rw [hAn];exact Nat.le_refl _)
 have I1:Inv (cxComp X scope N' cl C s H fp) [] (compSt own.length js σ) H { s with heap:=h₁,toks:=s.toks+([]:List (Str×Value)).length }:=
  Inv.comp S I hc1 hc2 (by rw [hAn];exact hCle) hns₁ old (fun b hb=>⟨hf b hb,by rw [hAn];exact fpLt b hb⟩) hHC fun b o e=>(below b (by rw [← hAn];exact Heap.lt_size e)).1
 have I2:Inv (cxComp X scope N' cl C s H fp) [(acc,accObj [] 0)] (compSt own.length js σ) H { s with heap:=h₁,toks:=s.toks+([]:List (Str×Value)).length }:=I1.pins_of fun p hp=>by
  obtain rfl:p=(acc,accObj [] 0):=by simpa using hp
  exact ⟨hacc,hHA,hDC,fun z=>absurd (stkLt acc z) (Nat.lt_irrefl _),fun v z=>by cases z⟩
 have st1:tn 0 h₁:=T.keep _ _ _ st fun b hb o e=>old b o e
 have loop:∀ s₃:Shared,s₃={ s with heap:=h₁,toks:=s.toks+([]:List (Str×Value)).length }->
  codeAny (model X.prog X.w) X.A (.compLoop (.ListComp elt [⟨tg,iter,ifs,0⟩] scope pos) 0 (.ref it) (.ref acc) (compEnvC scope cl C X.env)) (RR (.ref acc) C) s₃:=by
  rintro s₃ rfl
  refine comp_loop W turn T (hg _ _ _ _ _) (hc _ _ _ _ _) (he _ _ _ _ _) hcalm
   (fun b hb=>⟨(below b (fpLt b hb)).1,fun z=>?_,fun x c e z=>(hf b hb).2.2.2.2.1 x c (hc1 x c e) z,(below b (fpLt b hb)).2⟩)
   ⟨hDC,fun z=>absurd (stkLt acc z) (Nat.lt_irrefl _),fun x c e z=>absurd (cellLt x c (hc1 x c e)) (by rw [z];exact Nat.lt_irrefl _),by rw [hAn];exact Nat.le_refl _⟩ ?_ I2 st1 (fun b hb=>(hf b hb).1) w0
  ·rcases List.mem_cons.mp (I.stkSub b z) with q|q
   ·exact (hf b hb).2.1 q
   ·exact (hf b hb).2.2.1 q
  ·intro s' σ' H' ys us k J' rv q
   obtain ⟨e',n',l',f',d'⟩:=J'.pin (acc,accObj us k) (List.mem_append_right _ List.mem_cons_self)
   have n'':H' acc=none:=n'
   obtain ⟨m,hm,_⟩:=J'.loc
   have oldLt:∀ b o,s.heap.get? b=some o->b<acc:=fun b o e=>by rw [← hAn];exact Heap.lt_size e
   have neA:∀ b o,s.heap.get? b=some o->b≠acc:=fun b o e=>Nat.ne_of_lt (oldLt b o e)
   have un:Un (frs X.stack) fp H (upd H' acc (.lst ys)) s.heap s'.heap:=⟨J'.base.keep,J'.base.slot,fun b o e n hx=>by rw [upd_ne (neA b o e)];exact J'.base.free b o e n hx,J'.base.there,
    fun b xs e=>by
     have z:=J'.base.tups b xs e
     rw [upd_ne (ne_of_none z n'')];exact z,
    fun b o u e=>by
     have z:=J'.base.frzs b o u e
     rw [upd_ne (ne_of_none z n'')];exact z,
    fun b ps e=>by
     obtain ⟨more,z⟩:=J'.base.tbls b ps e
     exact ⟨more,by rw [upd_ne (ne_of_none z n'')];exact z⟩⟩
   have hok:HOk X.prog X.w (upd H' acc (.lst ys)) s'.heap:=fun b u e=>by
    by_cases hb:b=acc
    ·subst hb
     rw [upd_same] at e;cases e
     exact ⟨hF _ _ q,us,k,rv,e'⟩
    ·rw [upd_ne hb] at e
     exact (J'.hok b u e).stay (fun c v _ z=>z) (fun c z=>by rw [upd_ne (ne_of_none z n'')];exact z) fun c xs z=>by rw [upd_ne (ne_of_none z n'')];exact z
   have IX:Inv X pins σ (upd H' acc (.lst ys)) s':=I.call' J'.os un hok J'.bare fun b hb=>⟨(hf b hb).2.2.2.1,(hf b hb).2.1,(hf b hb).2.2.2.2.1,(hf b hb).2.2.2.2.2⟩
   refine fin acc C H' ys s' m IX n'' hm ?_ ?_ ?_ ?_ ?_ q
   ·rw [upd_ne (Ne.symm hDC)];exact J'.free
   ·exact Nat.ne_of_gt (Nat.lt_of_lt_of_le I.lt (by rw [hAn];exact hCle))
   ·exact Nat.le_trans I.sz (by rw [hAn];exact hCle)
   ·exact fun x c e z=>absurd (Nat.lt_of_lt_of_le (cellLt x c e) hCle) (by rw [z];exact Nat.lt_irrefl _)
   ·exact fun p hp z=>absurd (Nat.lt_of_lt_of_le (pinLt p hp) hCle) (by rw [z];exact Nat.lt_irrefl _)
 exact codeAny_compStart_list (loop _ rfl) (T.self _ 0 _ _ _ st1 (loop _ rfl))
theorem pe_comp (S:CompScope X scope own js N') (hcalm:X.calm=true) (hi:PI X tg iter wi) (hg:∀ cl C s₀ H₀ ex,PG (cxComp X scope N' cl C s₀ H₀ ex) tg g) (hc:∀ cl C s₀ H₀ ex,PIfs (cxComp X scope N' cl C s₀ H₀ ex) ifs tt)
 (he:∀ cl C s₀ H₀ ex,PE (cxComp X scope N' cl C s₀ H₀ ex) elt te) (hs:∀ x,foldedSetIterable iter X.env x=pure x:=by intro _;rfl):PE X (.ListComp elt [⟨tg,iter,ifs,0⟩] scope pos) (tComp wi g tt te own.length js):=by
 intro pins s σ H Q I h
 obtain ⟨cl,hcl,hc1,hc2⟩:=closure_ok (env:=X.env) scope fun y hy hk=>I.ok.has y.1 (S.free y hy hk)
 rw [eval_ListComp]
 refine wpAny_comprehension_free (use:=none) rfl hs hcl S.kind S.names (thn (hi pins s σ H _ I h) fun v s1 h1=>thn h1 fun itv s2 h2=>?_)
 obtain ⟨it,fp,tn,J,H2,e,I2,T,st2,f2,W,⟨m0,w0⟩,turn⟩:=h2
 subst e
 refine comp_run (RR:=fun acc C=>compPost (model X.prog X.w) X.A X.xe none (EP X pins σ Q) acc C) S hcalm hg hc he hc1 hc2 I2 T st2 f2 W w0 turn (fun ys H' q=>q.1) ?_
 intro acc C H' ys s' m IX na hm hCn hL hz hcn hpn q
 refine ⟨m,hm,fun h' hs'=>⟨.ref acc,_,?_,rfl,q.2 acc na⟩⟩
 exact IX.turned (t':=s'.toks) (it:=C) (fun b o hb e=>(hs'.2 b hb).trans e) hCn hL (.inr hz) hcn hpn
theorem ps_setComp {i:Nat} {x:Str} {pos' spos:Pos} (S:CompScope X scope own js N') (hcalm:X.calm=true) (hN:X.N.Nodup) (hx:X.N[i]?=some x) (hk:X.env.scope.names.lookup x=some .local) (hi:PI X tg iter wi) (hg:∀ cl C s₀ H₀ ex,PG (cxComp X scope N' cl C s₀ H₀ ex) tg g) (hc:∀ cl C s₀ H₀ ex,PIfs (cxComp X scope N' cl C s₀ H₀ ex) ifs tt)
 (he:∀ cl C s₀ H₀ ex,PE (cxComp X scope N' cl C s₀ H₀ ex) elt te) (hsw:swapsWith (.ListComp elt [⟨tg,iter,ifs,0⟩] scope pos) (some (.Name x pos')) spos.line X.env=pure true:=by rfl) (hs:∀ x,foldedSetIterable iter X.env x=pure x:=by intro _;rfl) :
 PS X (.Assign [.Name x pos'] (.ListComp elt [⟨tg,iter,ifs,0⟩] scope pos) spos) (tAsg (tComp wi g tt te own.length js) (gName i)):=by
 intro pins s σ H D I h
 obtain ⟨cl,hcl,hc1,hc2⟩:=closure_ok (env:=X.env) scope fun y hy hk=>I.ok.has y.1 (S.free y hy hk)
 rw [exec_Assign_Name_used _ _ _ _ hsw]
 refine wpAny_bind (wpAny_standAt (wpAny_bind ?_))
 show wpAny _ X.A (do let _ ← comprehension (.ListComp elt [⟨tg,iter,ifs,0⟩] scope pos) scope X.env _ (newList []) false (eval iter X.env) (some (assign (.Name x pos') X.env))) _ _ s
 refine wpAny_bind (wpAny_mono (wpAny_comprehension_free (use:=some (assign (.Name x pos') X.env)) (Q:=fun _ s'=>SP X pins D .next s') rfl hs hcl S.kind S.names
  (thn (hi pins s σ H _ I h) fun v s1 h1=>thn h1 fun itv s2 h2=>?_)) (fun _ s' hq=>wpAny_pure (wpAny_pure hq)) fun _ _ e=>e)
 obtain ⟨it,fp,tn,J,H2,e,I2,T,st2,f2,W,⟨m0,w0⟩,turn⟩:=h2
 subst e
 refine comp_run (RR:=fun acc C=>compPost (model X.prog X.w) X.A X.xe (some (assign (.Name x pos') X.env)) (fun _ s'=>SP X pins D .next s') acc C) S hcalm hg hc he hc1 hc2 I2 T st2 f2 W w0 turn (fun ys H' q=>q.1) ?_
 intro acc C H' ys s' m IX na hm hCn hL hz hcn hpn q
 show wpAny _ X.A (assign (.Name x pos') X.env (.ref acc)) _ _ s'
 refine wpAny_assign_Name (store_ok2 IX hN hx (.inl hk) (v:=.ref acc) rfl (fun s'' I'' hsb=>?_) (.inr hk))
 obtain ⟨a,hsb,ha⟩:=hsb
 have haC:C≠a:=by
  rcases ha with z|z
  ·rw [z];exact hL
  ·exact fun q=>hcn x a z q.symm
 refine ⟨m,hm.sameBut hsb haC,fun h' hs'=>⟨_,_,?_,q.2 acc na⟩⟩
 exact I''.turned (t':=s''.toks) (it:=C) (fun b o hb e=>(hs'.2 b hb).trans e) hCn hL (.inr hz) hcn hpn
end
section
variable {X:Cx}
def CDivW (i j:Int):Prop:=0<j/\j<340282366920938463463374607431768211456
theorem op_fdivW:OpR X (binaryOp .FloorDiv) (rI CDivW fun i j=>.int (i / j)):=opI fun i j _ _ _ _ _ hc q=>by
 rw [← Int.fdiv_eq_ediv_of_nonneg i (Int.le_of_lt hc.1)] at q
 have h1:(0:Int)<j:=hc.1
 have h2:j<340282366920938463463374607431768211456:=hc.2
 have hb:j.natAbs<340282366920938463463374607431768211456:=by omega
 have he:(2:Nat) ^ 128=340282366920938463463374607431768211456:=by decide +kernel
 have hl:j.natAbs.log2<128:=(Nat.log2_lt (by omega)).mpr (Nat.lt_of_lt_of_eq hb he.symm)
 exact floordiv_int (by have:=hc.1;omega) q (.inl (PyProof.noPylong_of_log2 (by omega)))
theorem comp_range {lo:Int} {n:Nat} {g:TG} {te:TE} {F:List V->Hp->Prop} {σ0:St} {H0:Hp} (Pv:Nat->List V->St->Hp->Prop) (hn:n≤sizeLine) (h0:Pv 0 [] σ0 H0)
 (hs:∀ i ys σ H,i<n->ys.length=i->Pv i ys σ H->∀ N:List V->St->Hp->Prop,(∀ ys' σ' H',ys'.length=i+1->Pv (i+1) ys' σ' H'->N ys' σ' H')->g (.int (lo+i)) σ H fun σ2 H2=>te σ2 H2 fun y H3=>N (ys++[y]) σ2 H3)
 (hd:∀ ys σ H,ys.length=n->Pv n ys σ H->F ys H) :
 ∃ W:Nat->Nat->List V->St->Hp->Prop,(∃ m,W 0 m [] σ0 H0)/\CTurn (Itr lo n) g tYes te F W:=by
 refine ⟨fun i m ys σ H=>m=n-i/\i≤n/\ys.length=i/\Pv i ys σ H,⟨n,by simp,Nat.zero_le _,rfl,h0⟩,?_⟩
 rintro i m ys σ H ⟨rfl,hi,hl,p⟩
 by_cases hlt:i<n
 ·refine .inr ⟨hlt,by omega,fun x H' y=>?_⟩
  obtain ⟨e,y⟩:=y
  subst e y
  exact hs i ys σ _ hlt hl p (fun ys' σ' H'=>∃ m',m'<n-i/\m'=n-(i+1)/\i+1≤n/\ys'.length=i+1/\Pv (i+1) ys' σ' H') fun ys' σ' H' hl' q=>⟨n-(i+1),by omega,rfl,hlt,hl',q⟩
 ·have e:i=n:=by omega
  subst e
  exact .inl ⟨Nat.le_refl _,hd ys σ H hl p⟩
theorem comp_list {K:PySem.W.Frag} {a:Addr} {xs:List V} {g:TG} {te:TE} {F:List V->Hp->Prop} {σ0:St} {H0:Hp} (Pv:Nat->List V->St->Hp->Prop) (hn:xs.length≤sizeLine) (h0:Pv 0 [] σ0 H0) (hq:∀ i ys σ H,i≤xs.length->Pv i ys σ H->SqL K H a xs)
 (hs:∀ i x ys σ H,xs[i]?=some x->ys.length=i->Pv i ys σ H->∀ N:List V->St->Hp->Prop,(∀ ys' σ' H',ys'.length=i+1->Pv (i+1) ys' σ' H'->N ys' σ' H')->g x σ H fun σ2 H2=>te σ2 H2 fun y H3=>N (ys++[y]) σ2 H3)
 (hd:∀ ys σ H,ys.length=xs.length->Pv xs.length ys σ H->F ys H) :
 ∃ W:Nat->Nat->List V->St->Hp->Prop,(∃ m,W 0 m [] σ0 H0)/\CTurn (Itl K a) g tYes te F W:=by
 refine ⟨fun i m ys σ H=>m=xs.length-i/\i≤xs.length/\ys.length=i/\Pv i ys σ H,⟨xs.length,by simp,Nat.zero_le _,rfl,h0⟩,?_⟩
 rintro i m ys σ H ⟨rfl,hi,hl,p⟩
 have q:=hq i ys σ H hi p
 by_cases hlt:i<xs.length
 ·refine .inr ⟨⟨xs,xs[i],q,by simp [hlt]⟩,by omega,fun x H' y=>?_⟩
  obtain ⟨e,y⟩:=y
  subst e
  exact hs i x ys σ _ (y xs q) hl p (fun ys' σ' H'=>∃ m',m'<xs.length-i/\m'=xs.length-(i+1)/\i+1≤xs.length/\ys'.length=i+1/\Pv (i+1) ys' σ' H') fun ys' σ' H' hl' q=>⟨xs.length-(i+1),by omega,rfl,hlt,hl',q⟩
 ·have e:i=xs.length:=by omega
  subst e
  exact .inl ⟨⟨xs,q,Nat.le_refl _⟩,hd ys σ H hl p⟩
theorem comp_tup {K:PySem.W.Frag} {a:Addr} {xs:List V} {g:TG} {te:TE} {F:List V->Hp->Prop} {σ0:St} {H0:Hp} (Pv:Nat->List V->St->Hp->Prop) (hn:xs.length≤sizeLine) (h0:Pv 0 [] σ0 H0) (hq:∀ i ys σ H,i≤xs.length->Pv i ys σ H->SqT K H a xs)
 (hs:∀ i x ys σ H,xs[i]?=some x->ys.length=i->Pv i ys σ H->∀ N:List V->St->Hp->Prop,(∀ ys' σ' H',ys'.length=i+1->Pv (i+1) ys' σ' H'->N ys' σ' H')->g x σ H fun σ2 H2=>te σ2 H2 fun y H3=>N (ys++[y]) σ2 H3)
 (hd:∀ ys σ H,ys.length=xs.length->Pv xs.length ys σ H->F ys H) :
 ∃ W:Nat->Nat->List V->St->Hp->Prop,(∃ m,W 0 m [] σ0 H0)/\CTurn (Itt K a) g tYes te F W:=by
 refine ⟨fun i m ys σ H=>m=xs.length-i/\i≤xs.length/\ys.length=i/\Pv i ys σ H,⟨xs.length,by simp,Nat.zero_le _,rfl,h0⟩,?_⟩
 rintro i m ys σ H ⟨rfl,hi,hl,p⟩
 have q:=hq i ys σ H hi p
 by_cases hlt:i<xs.length
 ·refine .inr ⟨⟨xs,xs[i],q,by simp [hlt]⟩,by omega,fun x H' y=>?_⟩
  obtain ⟨e,y⟩:=y
  subst e
  exact hs i x ys σ _ (y xs q) hl p (fun ys' σ' H'=>∃ m',m'<xs.length-i/\m'=xs.length-(i+1)/\i+1≤xs.length/\ys'.length=i+1/\Pv (i+1) ys' σ' H') fun ys' σ' H' hl' q=>⟨xs.length-(i+1),by omega,rfl,hlt,hl',q⟩
 ·have e:i=xs.length:=by omega
  subst e
  exact .inl ⟨⟨xs,q,Nat.le_refl _⟩,hd ys σ H hl p⟩
structure Def (K:PySem.W.Frag) (mg:Str->Option Value) (x:Str) (st:Stmt) (ps:List Str) (f:Addr) (fd:FuncData):Prop where
 F:Fun K x x st f fd
 mg:mg x=some (.ref f)
 b:Binds K fd ps []
def But (p:Addr) (H H':Hp):Prop:=∀ b o,H b=some o->b≠p->H' b=some o
theorem But.refl {p:Addr} {H:Hp}:But p H H:=fun _ _ h _=>h
theorem But.trans {p:Addr} {H H1 H2:Hp} (a:But p H H1) (b:But p H1 H2):But p H H2:=fun c o h hc=>b c o (a c o h hc) hc
theorem But.upd {p:Addr} {H:Hp} {o:HO}:But p H (upd H p o):=fun b u h hb=>by rw [upd_ne hb];exact h
theorem But.new {p q:Addr} {H:Hp} {o:HO} (h:H q=none):But p H (L2.upd H q o):=fun b u e _=>by rw [upd_ne (ne_of_none e h)];exact e
end
theorem seq_by {t u:TS} {D:Ends} {σ:St} {H:Hp} (M:St->Hp->Prop) (h2:∀ σ' H',M σ' H'->u D σ' H') (h1:∀ N:St->Hp->Prop,(∀ σ' H',M σ' H'->N σ' H')->t { D with nx:=N } σ H):tSeq t u D σ H:=h1 (u D) h2
theorem Same.new {H:Hp} {q:Addr} {o:HO} (h:H q=none):Same H (upd H q o):=fun b u e=>by rw [upd_ne (ne_of_none e h)];exact e
theorem Same.but {H H':Hp} {p:Addr} (h:Same H H'):But p H H':=fun b o e _=>h b o e
theorem bt_len:bootBuiltins "len" = some (.builtin "len"):=by decide +kernel
theorem bt_list:bootBuiltins "list" = some (.type "list"):=by decide +kernel
theorem bt_tuple:bootBuiltins "tuple" = some (.type "tuple"):=by decide +kernel
theorem bt_int:bootBuiltins "int" = some (.type "int"):=by decide +kernel
theorem bt_bool:bootBuiltins "bool" = some (.type "bool"):=by decide +kernel
theorem bt_min:bootBuiltins "min" = some (.builtin "min"):=by decide +kernel
theorem bt_isinstance:bootBuiltins "isinstance" = some (.builtin "isinstance"):=by decide +kernel
end L2
namespace L2
open PySem PySem.Spec PyProof.Rows PySem.SeqAt
mutual
inductive Rep (K:PySem.W.Frag) (H:Hp):V->PyData->Prop
 |non:Rep K H .non .none
 |bl (b:Bool):Rep K H (.bl b) (.bool b)
 |int (i:Int):Rep K H (.int i) (.int i)
 |str (x:Str):Rep K H (.str x) (.str x)
 |tup {a:Addr} {xs:List V} {ds:List PyData}:SqT K H a xs->Reps K H xs ds->Rep K H (.ref a) (.tuple ds)
 |lst {a:Addr} {xs:List V} {ds:List PyData}:SqL K H a xs->Reps K H xs ds->Rep K H (.ref a) (.list ds)
inductive Reps (K:PySem.W.Frag) (H:Hp):List V->List PyData->Prop
 |nil:Reps K H [] []
 |cons {x:V} {d:PyData} {xs:List V} {ds:List PyData}:Rep K H x d->Reps K H xs ds->Reps K H (x::xs) (d::ds)
end
section
variable {K:PySem.W.Frag} {H H':Hp}
theorem Reps.length:∀ {xs:List V} {ds:List PyData},Reps K H xs ds->xs.length=ds.length
 |_,_,.nil=>rfl
 |_,_,.cons _ t=>by rw [List.length_cons,List.length_cons,Reps.length t]
theorem But.seq {p a:Addr} {xs:List V} {kvs:List (Key×V)} (e:But p H H') (hp:H p=some (.dK kvs)) (h:SqL K H a xs):SqL K H' a xs:=by
 rcases h with (h|⟨o,h⟩)|h
 ·exact .inl (.inl (e _ _ h (ne_of h hp (by intro z;cases z))))
 ·exact .inl (.inr ⟨o,e _ _ h (ne_of h hp (by intro z;cases z))⟩)
 ·exact .inr h
end
section
variable {X:Cx} {pins:List (Addr×Obj)} {σ:St} {H:Hp} {s:Shared}
end
mutual
def pdEq:PyData->PyData->Bool
 |.none,.none=>true
 |.bool a,.bool b=>a == b
 |.bool a,.int b=>(if a then 1 else 0) == b
 |.int a,.bool b=>a == (if b then 1 else 0)
 |.int a,.int b=>a == b
 |.str a,.str b=>a == b
 |.tuple a,.tuple b=>pdEqs a b
 |.list a,.list b=>pdEqs a b
 |_,_=>false
def pdEqs:List PyData->List PyData->Bool
 |[],[]=>true
 |a::r,b::t=>pdEq a b && pdEqs r t
 |_,_=>false
end
theorem pdEqs_iff:∀ (ds es:List PyData),pdEqs ds es=((List.range (min ds.length es.length)).all (fun j=>pdEq (ds.getD j .none) (es.getD j .none)) && ds.length == es.length)
 |[],[]=>by simp [pdEqs]
 |[],_::_=>by simp [pdEqs]
 |_::_,[]=>by simp [pdEqs]
 | a::r,b::t=>by
   rw [pdEqs,pdEqs_iff r t,List.length_cons,List.length_cons,Nat.succ_min_succ,List.range_succ_eq_map,List.all_cons,List.all_map]
   simp only [List.getD_cons_zero,Bool.and_assoc]
   congr 1
   have e:(r.length+1 == t.length+1)=(r.length == t.length):=by
    rw [Bool.eq_iff_iff];simp
   rw [e]
   congr 1
mutual
def pdDep:PyData->Nat
 |.tuple xs=>pdDeps xs+1
 |.list xs=>pdDeps xs+1
 |_=>0
def pdDeps:List PyData->Nat
 |[]=>0
 |d::r=>max (pdDep d) (pdDeps r)
end
section
variable {X:Cx} {pins:List (Addr×Obj)} {σ:St} {H:Hp} {s:Shared}
mutual
theorem Rep.fn (I:Inv X pins σ H s):∀ {v:V} {d e:PyData} {u:Value},Rep X.K H v d->Rep X.K H v e->RelV v u->d=e/\pdEq d d=true
 |_,_,_,_,.non,.non,_=>⟨rfl,rfl⟩
 |_,_,_,_,.bl b,.bl _,_=>⟨rfl,by simp [pdEq]⟩
 |_,_,_,_,.int i,.int _,_=>⟨rfl,by simp [pdEq]⟩
 |_,_,_,_,.str x,.str _,_=>⟨rfl,by simp [pdEq]⟩
 | _,_,_,_,.tup h1 r1,.tup h2 r2,r=>by
   have e:=I.tuple_inj h1 h2
   subst e
   obtain ⟨its,rv,_,_⟩:=I.tuple h1
   obtain ⟨e,q⟩:=Reps.fn I r1 r2 rv
   exact ⟨by rw [e],q⟩
 | _,_,_,_,.lst h1 r1,.lst h2 r2,r=>by
   have e:=I.list_inj h1 h2
   subst e
   obtain ⟨its,rv,_,_⟩:=I.list h1
   obtain ⟨e,q⟩:=Reps.fn I r1 r2 rv
   exact ⟨by rw [e],q⟩
 | _,_,_,_,.tup h1 _,.lst h2 _,r=>by
   obtain ⟨_,_,⟨o,e1,c1,_⟩,_⟩:=I.tuple h1
   obtain ⟨_,_,⟨o',n,e2,c2,_⟩,_⟩:=I.list h2
   rw [e1] at e2;cases e2
   rw [c1] at c2;injection c2 with z;exact absurd z (by decide)
 | _,_,_,_,.lst h2 _,.tup h1 _,r=>by
   obtain ⟨_,_,⟨o,e1,c1,_⟩,_⟩:=I.tuple h1
   obtain ⟨_,_,⟨o',n,e2,c2,_⟩,_⟩:=I.list h2
   rw [e1] at e2;cases e2
   rw [c1] at c2;injection c2 with z;exact absurd z (by decide)
theorem Reps.fn (I:Inv X pins σ H s):∀ {v:List V} {d e:List PyData} {u:List Value},Reps X.K H v d->Reps X.K H v e->Vals v u->d=e/\pdEqs d d=true
 |_,_,_,_,.nil,.nil,_=>⟨rfl,rfl⟩
 | _,_,_,_,.cons a b,.cons c d,.cons r rs=>by
   obtain ⟨e1,q1⟩:=Rep.fn I a c r
   obtain ⟨e2,q2⟩:=Reps.fn I b d rs
   exact ⟨by rw [e1,e2],by simp [pdEqs,q1,q2]⟩
end
theorem allEq {vs ws:List V} {ds es:List PyData} {us xs:List Value} {A:Around} (rs1:Reps X.K H vs ds) (rs2:Reps X.K H ws es) (rv1:Vals vs us) (rv2:Vals ws xs) :
 ((List.range (min us.toArray.size xs.toArray.size)).all (fun j=>pdEq (ds.getD j .none) (es.getD j .none)) && us.toArray.size == xs.toArray.size)=pdEqs ds es:=by
 rw [pdEqs_iff,List.size_toArray,List.size_toArray,← rv1.length,← rv2.length,rs1.length,rs2.length]
theorem rcT {l b:Addr} {vs ws:List V} {ds es:List PyData} {us xs:List Value} {A:Around} (rs1:Reps X.K H vs ds) (rs2:Reps X.K H ws es) (rv1:Vals vs us) (rv2:Vals ws xs) (p1:IsTup s.heap l us.toArray) (p2:IsTup s.heap b xs.toArray) (hu:A.units<cLine)
 (he:∀ j (h1:j<us.length) (h2:j<xs.length),EqAt A.in1 s us[j] xs[j] (pdEq (ds.getD j .none) (es.getD j .none))):RcAt A s (.ref l) (.ref b) (pdEq (.tuple ds) (.tuple es)):=by
 show RcAt A s (.ref l) (.ref b) (pdEqs ds es)
 rw [← allEq (A:=A) rs1 rs2 rv1 rv2]
 exact RcAt.tuples (show s.heap.IsTuple l us.toArray from p1) (show s.heap.IsTuple b xs.toArray from p2) hu fun j h1 h2=>by simpa using he j (by simpa using h1) (by simpa using h2)
theorem rcL {l b:Addr} {vs ws:List V} {ds es:List PyData} {us xs:List Value} {A:Around} (rs1:Reps X.K H vs ds) (rs2:Reps X.K H ws es) (rv1:Vals vs us) (rv2:Vals ws xs) (p1:s.heap.IsList l us.toArray) (p2:s.heap.IsList b xs.toArray) (hu:A.units<cLine)
 (he:∀ j (h1:j<us.length) (h2:j<xs.length),EqAt A.in1 s us[j] xs[j] (pdEq (ds.getD j .none) (es.getD j .none))):RcAt A s (.ref l) (.ref b) (pdEq (.list ds) (.list es)):=by
 show RcAt A s (.ref l) (.ref b) (pdEqs ds es)
 have q:=allEq (A:=A) rs1 rs2 rv1 rv2
 by_cases hz:us.toArray.size=xs.toArray.size
 ·rw [← q,hz,Nat.min_self,beq_self_eq_true,Bool.and_true,← hz]
  exact RcAt.lists p1 p2 hz hu fun j h1 h2=>by simpa using he j (by simpa using h1) (by simpa using h2)
 ·have e:pdEqs ds es=false:=by
   rw [← q]
   have:(us.toArray.size == xs.toArray.size)=false:=by simpa using hz
   rw [this,Bool.and_false]
  rw [e]
  exact RcAt.lists_lengths p1 p2 (by simpa using hz) hu
theorem eqT (I:Inv X pins σ H s) {l b:Addr} {vs ws:List V} {ds es:List PyData} {us xs:List Value} {A:Around} (h1:SqT X.K H l vs) (h2:SqT X.K H b ws) (rs1:Reps X.K H vs ds) (rs2:Reps X.K H ws es) (rv1:Vals vs us) (rv2:Vals ws xs) (p1:IsTup s.heap l us.toArray) (p2:IsTup s.heap b xs.toArray) (hu:A.units<cLine)
 (he:∀ j (h1:j<us.length) (h2:j<xs.length),EqAt A.in1 s us[j] xs[j] (pdEq (ds.getD j .none) (es.getD j .none))):EqAt A s (.ref l) (.ref b) (pdEq (.tuple ds) (.tuple es)):=by
 by_cases hlb:l=b
 ·subst hlb
  obtain ⟨e,q⟩:=Rep.fn I (.tup h1 rs1) (.tup h2 rs2) (u:=.ref l) rfl
  rw [← e,q]
  exact EqAt.same _
 ·exact EqAt.of_refs hlb (rcT rs1 rs2 rv1 rv2 p1 p2 hu he)
theorem eqL (I:Inv X pins σ H s) {l b:Addr} {vs ws:List V} {ds es:List PyData} {us xs:List Value} {A:Around} (h1:SqL X.K H l vs) (h2:SqL X.K H b ws) (rs1:Reps X.K H vs ds) (rs2:Reps X.K H ws es) (rv1:Vals vs us) (rv2:Vals ws xs) (p1:s.heap.IsList l us.toArray) (p2:s.heap.IsList b xs.toArray) (hu:A.units<cLine)
 (he:∀ j (h1:j<us.length) (h2:j<xs.length),EqAt A.in1 s us[j] xs[j] (pdEq (ds.getD j .none) (es.getD j .none))):EqAt A s (.ref l) (.ref b) (pdEq (.list ds) (.list es)):=by
 by_cases hlb:l=b
 ·subst hlb
  obtain ⟨e,q⟩:=Rep.fn I (.lst h1 rs1) (.lst h2 rs2) (u:=.ref l) rfl
  rw [← e,q]
  exact EqAt.same _
 ·exact EqAt.of_refs hlb (rcL rs1 rs2 rv1 rv2 p1 p2 hu he)
theorem hu00 {A:Around} {n:Nat} (h:A.units+n<cLine):A.units<cLine:=by omega
theorem hu0 {A:Around} {n:Nat} (h:A.units+(n+1)<cLine):A.units<cLine:=by omega
theorem hu1 {A:Around} {n:Nat} (h:A.units+(n+1)<cLine):A.in1.units+n<cLine:=by show A.units+1+n<cLine;omega
mutual
theorem eq_at (I:Inv X pins σ H s):∀ {v w:V} {d e:PyData} {u x:Value} {A:Around},Rep X.K H v d->Rep X.K H w e->RelV v u->RelV w x->A.units+pdDep d<cLine->EqAt A s u x (pdEq d e)
 | _,_,_,_,u,x,A,.non,.non,r1,r2,hu=>by
   cases (show u=Value.none from r1)
   cases (show x=Value.none from r2)
   exact EqAt.same _
 | _,_,_,_,u,x,A,.non,.bl b2,r1,r2,hu=>by
   cases (show u=Value.none from r1)
   cases (show x=Value.bool b2 from r2)
   exact EqAt.none_bool b2
 | _,_,_,_,u,x,A,.non,.int i2,r1,r2,hu=>by
   cases (show u=Value.none from r1)
   obtain ⟨t2,e2⟩:=(show ∃ t,x=Value.int i2 t from r2);subst e2
   exact EqAt.none_int i2 t2
 | _,_,_,_,u,x,A,.non,.str y2,r1,r2,hu=>by
   cases (show u=Value.none from r1)
   obtain ⟨t2,e2⟩:=(show ∃ t,x=Value.str y2 t from r2);subst e2
   exact EqAt.none_str y2 t2
 | _,_,_,_,u,x,A,.non,.lst h2 rs2,r1,r2,hu=>by
   cases (show u=Value.none from r1)
   cases (show x=Value.ref _ from r2);obtain ⟨its2,rv2,p2,_⟩:=I.list h2
   exact EqAt.none_list p2.isList (hu00 hu)
 | _,_,_,_,u,x,A,.non,.tup h2 rs2,r1,r2,hu=>by
   cases (show u=Value.none from r1)
   cases (show x=Value.ref _ from r2);obtain ⟨its2,rv2,p2,_⟩:=I.tuple h2
   exact EqAt.none_tuple p2 (hu00 hu)
 | _,_,_,_,u,x,A,.bl b1,.non,r1,r2,hu=>by
   cases (show u=Value.bool b1 from r1)
   cases (show x=Value.none from r2)
   exact EqAt.bool_none b1
 | _,_,_,_,u,x,A,.bl b1,.bl b2,r1,r2,hu=>by
   cases (show u=Value.bool b1 from r1)
   cases (show x=Value.bool b2 from r2)
   exact EqAt.bool_bool b1 b2
 | _,_,_,_,u,x,A,.bl b1,.int i2,r1,r2,hu=>by
   cases (show u=Value.bool b1 from r1)
   obtain ⟨t2,e2⟩:=(show ∃ t,x=Value.int i2 t from r2);subst e2
   exact EqAt.bool_int b1 i2 t2
 | _,_,_,_,u,x,A,.bl b1,.str y2,r1,r2,hu=>by
   cases (show u=Value.bool b1 from r1)
   obtain ⟨t2,e2⟩:=(show ∃ t,x=Value.str y2 t from r2);subst e2
   exact EqAt.bool_str b1 y2 t2
 | _,_,_,_,u,x,A,.bl b1,.lst h2 rs2,r1,r2,hu=>by
   cases (show u=Value.bool b1 from r1)
   cases (show x=Value.ref _ from r2);obtain ⟨its2,rv2,p2,_⟩:=I.list h2
   exact EqAt.bool_list b1 p2.isList (hu00 hu)
 | _,_,_,_,u,x,A,.bl b1,.tup h2 rs2,r1,r2,hu=>by
   cases (show u=Value.bool b1 from r1)
   cases (show x=Value.ref _ from r2);obtain ⟨its2,rv2,p2,_⟩:=I.tuple h2
   exact EqAt.bool_tuple b1 p2 (hu00 hu)
 | _,_,_,_,u,x,A,.int i1,.non,r1,r2,hu=>by
   obtain ⟨t1,e1⟩:=(show ∃ t,u=Value.int i1 t from r1);subst e1
   cases (show x=Value.none from r2)
   exact EqAt.int_none i1 t1
 | _,_,_,_,u,x,A,.int i1,.bl b2,r1,r2,hu=>by
   obtain ⟨t1,e1⟩:=(show ∃ t,u=Value.int i1 t from r1);subst e1
   cases (show x=Value.bool b2 from r2)
   exact EqAt.int_bool i1 t1 b2
 | _,_,_,_,u,x,A,.int i1,.int i2,r1,r2,hu=>by
   obtain ⟨t1,e1⟩:=(show ∃ t,u=Value.int i1 t from r1);subst e1
   obtain ⟨t2,e2⟩:=(show ∃ t,x=Value.int i2 t from r2);subst e2
   exact EqAt.int_int i1 t1 i2 t2
 | _,_,_,_,u,x,A,.int i1,.str y2,r1,r2,hu=>by
   obtain ⟨t1,e1⟩:=(show ∃ t,u=Value.int i1 t from r1);subst e1
   obtain ⟨t2,e2⟩:=(show ∃ t,x=Value.str y2 t from r2);subst e2
   exact EqAt.int_str i1 t1 y2 t2
 | _,_,_,_,u,x,A,.int i1,.lst h2 rs2,r1,r2,hu=>by
   obtain ⟨t1,e1⟩:=(show ∃ t,u=Value.int i1 t from r1);subst e1
   cases (show x=Value.ref _ from r2);obtain ⟨its2,rv2,p2,_⟩:=I.list h2
   exact EqAt.int_list i1 t1 p2.isList (hu00 hu)
 | _,_,_,_,u,x,A,.int i1,.tup h2 rs2,r1,r2,hu=>by
   obtain ⟨t1,e1⟩:=(show ∃ t,u=Value.int i1 t from r1);subst e1
   cases (show x=Value.ref _ from r2);obtain ⟨its2,rv2,p2,_⟩:=I.tuple h2
   exact EqAt.int_tuple i1 t1 p2 (hu00 hu)
 | _,_,_,_,u,x,A,.str y1,.non,r1,r2,hu=>by
   obtain ⟨t1,e1⟩:=(show ∃ t,u=Value.str y1 t from r1);subst e1
   cases (show x=Value.none from r2)
   exact EqAt.str_none y1 t1
 | _,_,_,_,u,x,A,.str y1,.bl b2,r1,r2,hu=>by
   obtain ⟨t1,e1⟩:=(show ∃ t,u=Value.str y1 t from r1);subst e1
   cases (show x=Value.bool b2 from r2)
   exact EqAt.str_bool y1 t1 b2
 | _,_,_,_,u,x,A,.str y1,.int i2,r1,r2,hu=>by
   obtain ⟨t1,e1⟩:=(show ∃ t,u=Value.str y1 t from r1);subst e1
   obtain ⟨t2,e2⟩:=(show ∃ t,x=Value.int i2 t from r2);subst e2
   exact EqAt.str_int y1 t1 i2 t2
 | _,_,_,_,u,x,A,.str y1,.str y2,r1,r2,hu=>by
   obtain ⟨t1,e1⟩:=(show ∃ t,u=Value.str y1 t from r1);subst e1
   obtain ⟨t2,e2⟩:=(show ∃ t,x=Value.str y2 t from r2);subst e2
   exact EqAt.str_str y1 t1 y2 t2
 | _,_,_,_,u,x,A,.str y1,.lst h2 rs2,r1,r2,hu=>by
   obtain ⟨t1,e1⟩:=(show ∃ t,u=Value.str y1 t from r1);subst e1
   cases (show x=Value.ref _ from r2);obtain ⟨its2,rv2,p2,_⟩:=I.list h2
   exact EqAt.str_list y1 t1 p2.isList (hu00 hu)
 | _,_,_,_,u,x,A,.str y1,.tup h2 rs2,r1,r2,hu=>by
   obtain ⟨t1,e1⟩:=(show ∃ t,u=Value.str y1 t from r1);subst e1
   cases (show x=Value.ref _ from r2);obtain ⟨its2,rv2,p2,_⟩:=I.tuple h2
   exact EqAt.str_tuple y1 t1 p2 (hu00 hu)
 | _,_,_,_,u,x,A,.lst h1 rs1,.non,r1,r2,hu=>by
   cases (show u=Value.ref _ from r1);obtain ⟨its1,rv1,p1,_⟩:=I.list h1
   cases (show x=Value.none from r2)
   exact EqAt.list_none p1.isList (hu00 hu)
 | _,_,_,_,u,x,A,.lst h1 rs1,.bl b2,r1,r2,hu=>by
   cases (show u=Value.ref _ from r1);obtain ⟨its1,rv1,p1,_⟩:=I.list h1
   cases (show x=Value.bool b2 from r2)
   exact EqAt.list_bool b2 p1.isList (hu00 hu)
 | _,_,_,_,u,x,A,.lst h1 rs1,.int i2,r1,r2,hu=>by
   cases (show u=Value.ref _ from r1);obtain ⟨its1,rv1,p1,_⟩:=I.list h1
   obtain ⟨t2,e2⟩:=(show ∃ t,x=Value.int i2 t from r2);subst e2
   exact EqAt.list_int i2 t2 p1.isList (hu00 hu)
 | _,_,_,_,u,x,A,.lst h1 rs1,.str y2,r1,r2,hu=>by
   cases (show u=Value.ref _ from r1);obtain ⟨its1,rv1,p1,_⟩:=I.list h1
   obtain ⟨t2,e2⟩:=(show ∃ t,x=Value.str y2 t from r2);subst e2
   exact EqAt.list_str y2 t2 p1.isList (hu00 hu)
 | _,_,_,_,u,x,A,.lst h1 rs1,.lst h2 rs2,r1,r2,hu=>by
   cases (show u=Value.ref _ from r1);obtain ⟨its1,rv1,p1,_⟩:=I.list h1
   cases (show x=Value.ref _ from r2);obtain ⟨its2,rv2,p2,_⟩:=I.list h2
   exact eqL I h1 h2 rs1 rs2 rv1 rv2 p1.isList p2.isList (hu0 hu) (eqs_at I rs1 rs2 rv1 rv2 (hu1 hu))
 | _,_,_,_,u,x,A,.lst h1 rs1,.tup h2 rs2,r1,r2,hu=>by
   cases (show u=Value.ref _ from r1);obtain ⟨its1,rv1,p1,_⟩:=I.list h1
   cases (show x=Value.ref _ from r2);obtain ⟨its2,rv2,p2,_⟩:=I.tuple h2
   exact EqAt.list_tuple p1.isList p2 (hu00 hu)
 | _,_,_,_,u,x,A,.tup h1 rs1,.non,r1,r2,hu=>by
   cases (show u=Value.ref _ from r1);obtain ⟨its1,rv1,p1,_⟩:=I.tuple h1
   cases (show x=Value.none from r2)
   exact EqAt.tuple_none p1 (hu00 hu)
 | _,_,_,_,u,x,A,.tup h1 rs1,.bl b2,r1,r2,hu=>by
   cases (show u=Value.ref _ from r1);obtain ⟨its1,rv1,p1,_⟩:=I.tuple h1
   cases (show x=Value.bool b2 from r2)
   exact EqAt.tuple_bool b2 p1 (hu00 hu)
 | _,_,_,_,u,x,A,.tup h1 rs1,.int i2,r1,r2,hu=>by
   cases (show u=Value.ref _ from r1);obtain ⟨its1,rv1,p1,_⟩:=I.tuple h1
   obtain ⟨t2,e2⟩:=(show ∃ t,x=Value.int i2 t from r2);subst e2
   exact EqAt.tuple_int i2 t2 p1 (hu00 hu)
 | _,_,_,_,u,x,A,.tup h1 rs1,.str y2,r1,r2,hu=>by
   cases (show u=Value.ref _ from r1);obtain ⟨its1,rv1,p1,_⟩:=I.tuple h1
   obtain ⟨t2,e2⟩:=(show ∃ t,x=Value.str y2 t from r2);subst e2
   exact EqAt.tuple_str y2 t2 p1 (hu00 hu)
 | _,_,_,_,u,x,A,.tup h1 rs1,.lst h2 rs2,r1,r2,hu=>by
   cases (show u=Value.ref _ from r1);obtain ⟨its1,rv1,p1,_⟩:=I.tuple h1
   cases (show x=Value.ref _ from r2);obtain ⟨its2,rv2,p2,_⟩:=I.list h2
   exact EqAt.tuple_list p1 p2.isList (hu00 hu)
 | _,_,_,_,u,x,A,.tup h1 rs1,.tup h2 rs2,r1,r2,hu=>by
   cases (show u=Value.ref _ from r1);obtain ⟨its1,rv1,p1,_⟩:=I.tuple h1
   cases (show x=Value.ref _ from r2);obtain ⟨its2,rv2,p2,_⟩:=I.tuple h2
   exact eqT I h1 h2 rs1 rs2 rv1 rv2 p1 p2 (hu0 hu) (eqs_at I rs1 rs2 rv1 rv2 (hu1 hu))
theorem eqs_at (I:Inv X pins σ H s):∀ {vs ws:List V} {ds es:List PyData} {us xs:List Value} {A:Around},Reps X.K H vs ds->Reps X.K H ws es->Vals vs us->Vals ws xs->A.units+pdDeps ds<cLine->
 ∀ j (h1:j<us.length) (h2:j<xs.length),EqAt A s us[j] xs[j] (pdEq (ds.getD j .none) (es.getD j .none))
 |_,_,_,_,_,_,_,.nil,_,.nil,_,_,j,h1,_=>absurd h1 (Nat.not_lt_zero _)
 |_,_,_,_,_,_,_,.cons _ _,.nil,.cons _ _,.nil,_,j,_,h2=>absurd h2 (Nat.not_lt_zero _)
 |_,_,_,_,_,_,_,.cons a b,.cons c d,.cons r rs,.cons t ts,hu,0,_,_=>eq_at I a c r t (by simp only [pdDeps] at hu;simp only [List.getD_cons_zero];omega)
 |_,_,_,_,_,_,_,.cons a b,.cons c d,.cons r rs,.cons t ts,hu,j+1,h1,h2=>eqs_at I b d rs ts (by simp only [pdDeps] at hu;omega) j (by simpa using h1) (by simpa using h2)
end
end
section
variable {X:Cx}
def tyD:PyData->String
 |.none=>"NoneType"
 |.bool _=>"bool"
 |.int _=>"int"
 |.str _=>"str"
 |.list _=>"list"
 |.tuple _=>"tuple"
 |.dict _=>"dict"
theorem isD {pins:List (Addr×Obj)} {σ:St} {H:Hp} {s:Shared} {A:Around} {E:Value->Shared->Prop} {Q:Value->Shared->Prop} {v:V} {d:PyData} {u c:Value} {b:Bool} (I:Inv X pins σ H s) (r:Rep X.K H v d) (rv:RelV v u)
 (e:PySem.W.kitOne X.K (.type (tyD d)) c=some b) (h:∀ tk,Q (.bool b) { s with toks:=tk }):wpAny (model X.prog X.w) A (call (.builtin "isinstance") [u,c]) Q E s:=by
 cases r with
 |non=>cases (show u=Value.none from rv);exact PySem.W.kia_one PySem.W.kitx_none I.kIn True.intro e (fun z=>nomatch z) h
 |bl y=>cases (show u=Value.bool y from rv);exact PySem.W.kia_one PySem.W.kitx_bool I.kIn True.intro e (fun z=>nomatch z) h
 |int i=>obtain ⟨t,q⟩:=(show ∃ t,u=Value.int i t from rv);cases q;exact PySem.W.kia_one PySem.W.kitx_int I.kIn True.intro e (fun z=>nomatch z) h
 |str y=>obtain ⟨t,q⟩:=(show ∃ t,u=Value.str y t from rv);cases q;exact PySem.W.kia_one PySem.W.kitx_str I.kIn True.intro e (fun z=>nomatch z) h
 | tup g _=>
   cases (show u=Value.ref _ from rv)
   obtain ⟨_,_,⟨o,h1,h2,_⟩,_⟩:=I.tuple g
   exact PySem.W.kia_one PySem.W.kitx_tuple I.kIn ⟨o,h1,h2⟩ e (fun z=>nomatch z) h
 | lst g _=>
   cases (show u=Value.ref _ from rv)
   obtain ⟨_,_,⟨o,n,h1,h2,_⟩,_⟩:=I.list g
   exact PySem.W.kia_one PySem.W.kitx_list I.kIn ⟨o,h1,h2⟩ e (fun z=>nomatch z) h
def rIsT (K:PySem.W.Frag):List V->Hp->VK->Prop:=fun xs H Q=>∃ x n d b,xs=[x,.ty n]/\Rep K H x d/\PySem.W.kitOne K (.type (tyD d)) (.type n)=some b/\Q (.bl b) H
theorem call_isT:CallR X (.builtin "isinstance") (rIsT X.K):=by
 intro pins s σ H xs us Q I r h
 obtain ⟨x,n,d,b,rfl,hr,e,q⟩:=h
 cases r with
 | cons r1 r=>
   cases r with
   | cons r2 r=>
     cases r
     cases (show _=Value.type n from r2)
     exact isD I hr r1 e fun tk=>⟨.bl b,H,I.tok tk,rfl,q⟩
theorem strs_of {us:List Value}:∀ {ys:List Str},Vals (ys.map V.str) us->StrsAre us ys:=by
 intro ys
 induction ys generalizing us with
 |nil=>intro r;cases r;exact .nil
 | cons y t ih=>
   intro r
   cases r with
   | cons r1 r=>
     obtain ⟨tk,e⟩:=(show ∃ t,_=Value.str y t from r1)
     subst e
     exact .cons _ _ (ih r)
def rJoin (K:PySem.W.Frag):V->List V->Hp->VK->Prop:=fun x vs H Q=>∃ z a ys,x=.str z/\vs=[.ref a]/\SqL K H a (ys.map V.str)/\(ys.map (·.length)).sum+ys.length*z.length≤16777216/\Q (.str (Txt.join z ys)) H
theorem mt_join:MtR X "str.join" (rJoin X.K):=by
 intro pins s σ H x vs v us Q I rx rv h
 obtain ⟨z,a,ys,rfl,rfl,hq,hl,q⟩:=h
 obtain ⟨t,e⟩:=(show ∃ t,v=Value.str z t from rx)
 subst e
 cases rv with
 | cons r1 r=>
   cases r
   cases (show _=Value.ref a from r1)
   obtain ⟨its,rs,p,hz⟩:=I.list hq
   exact join_list p.isList (by simpa using strs_of rs) hl fun t' k=>⟨.str _,H,I.tok k,⟨t',rfl⟩,q⟩
def rS0 (f:Str->Bool):V->List V->Hp->VK->Prop:=fun x vs H Q=>∃ z,x=.str z/\vs=[]/\Q (.bl (f z)) H
theorem mt_isascii:MtR X "str.isascii" (rS0 fun x=>x.cps.all (·<128)):=by
 intro pins s σ H x vs v us Q I rx rv h
 obtain ⟨z,rfl,rfl,q⟩:=h
 obtain ⟨t,e⟩:=(show ∃ t,v=Value.str z t from rx)
 subst e
 cases rv
 exact call_gives PySem.F.slot_str_isascii (typeIs_str _ _ _) PySem.F.entry_str_isascii (PySem.F.args_str_isascii_1 _) (gives_str_isascii z t) ⟨.bl _,H,I,rfl,q⟩
theorem mt_isalpha:MtR X "str.isalpha" (rS0 fun x=>x.length > 0 && x.cps.all Unicode.isAlpha):=by
 intro pins s σ H x vs v us Q I rx rv h
 obtain ⟨z,rfl,rfl,q⟩:=h
 obtain ⟨t,e⟩:=(show ∃ t,v=Value.str z t from rx)
 subst e
 cases rv
 exact call_gives PySem.F.slot_str_isalpha (typeIs_str _ _ _) PySem.F.entry_str_isalpha (PySem.F.args_str_isalpha_1 _) (gives_str_isalpha z t) ⟨.bl _,H,I,rfl,q⟩
theorem mt_islower:MtR X "str.islower" (rS0 fun x=>x.cps.any Unicode.isLower && !x.cps.any fun c=>Unicode.isUpper c || Unicode.isTitle c):=by
 intro pins s σ H x vs v us Q I rx rv h
 obtain ⟨z,rfl,rfl,q⟩:=h
 obtain ⟨t,e⟩:=(show ∃ t,v=Value.str z t from rx)
 subst e
 cases rv
 exact call_gives PySem.F.slot_str_islower (typeIs_str _ _ _) PySem.F.entry_str_islower (PySem.F.args_str_islower_1 _) (gives_str_islower z t) ⟨.bl _,H,I,rfl,q⟩
end
structure CompS (osc:Scope) (N:List Str) (scope:Scope) (own:List Str) (js:List Nat) (N':List Str):Prop where
 kind:scope.kind=.function
 nocell:∀ y∈scope.names,y.2≠.cell
 names:∀ y∈scope.names,y.2=.local->scope.names.lookup y.1=some .local
 free:∀ y∈scope.names,y.2=.free->osc.names.lookup y.1=some .cell∨osc.names.lookup y.1=some .free
 nm:N'=own++js.map fun j=>N.getD j Str.empty
 fr:∀ j∈js,j<N.length/\(N.getD j Str.empty,NameKind.free)∈scope.names/\∀ y∈scope.names,y.1=N.getD j Str.empty->y.2=.free
theorem CompScope.of {X:Cx} {osc scope:Scope} {N own N':List Str} {js:List Nat} (h1:X.env.scope=osc) (h2:X.N=N) (h:CompS osc N scope own js N'):CompScope X scope own js N':=by
 subst h1 h2
 exact ⟨h.kind,h.nocell,h.names,h.free,h.nm,fun j hj=>⟨(h.fr j hj).1,(h.fr j hj).2.1,fun k hk=>(h.fr j hj).2.2 _ hk rfl⟩⟩
theorem pe_ty {X:Cx} {x:Str} {n:String} {pos:Pos} (hg:Gl X x) (hm:X.mg x=none) (hv:bootBuiltins x=some (.type n)) (hn:x ≠ "__name__":=by decide) (hd:(x == ("__debug__" : Str))=false:=by decide):PE X (.Name x pos) (tC (.ty n)):=pe_bltn (v:=.ty n) hg hm hv rfl hn hd
theorem ifT {c:Bool} {A B:Prop} (h:c=true) (q:A):if c=true then A else B:=by rw [if_pos h];exact q
theorem ifF {c:Bool} {A B:Prop} (h:c=false) (q:B):if c=true then A else B:=by rw [if_neg (by rw [h];exact Bool.false_ne_true)];exact q
section
variable {X:Cx} {a b c d:Expr} {ta tb tc td:TE} {pos:Pos}
def tChain3 (r r' r'':R2) (ta tb tc td:TE):TE:=fun σ H Q=>ta σ H fun x H1=>tb σ H1 fun y H2=>r x y H2 fun z H3=>∃ k,z=.bl k/\
 (if k=true then tc σ H3 fun w' H4=>r' y w' H4 fun z' H5=>∃ k',z'=.bl k'/\(if k'=true then td σ H5 fun v' H6=>r'' w' v' H6 Q else Q (.bl false) H5) else Q (.bl false) H3)
theorem pt_chain3 {op op' op'':CmpOp} {r r' r'':R2} (ho:OpR X (compareOp op) r) (ho':OpR X (compareOp op') r') (ho'':OpR X (compareOp op'') r'') (ha:PE X a ta) (hb:PE X b tb) (hc:PE X c tc) (hd:PE X d td)
 (hm:lastMarks [op,op',op''] [b,c,d]=false:=by with_unfolding_all rfl):PT X (.Compare a [op,op',op''] [b,c,d] pos) (tTest (tChain3 r r' r'' ta tb tc td)):=by
 intro pins s σ H Q I h
 refine isTrue_chain (thn (ha pins s σ H _ I h) fun v s1 ⟨x,H1,I1,r1,q1⟩=>test_link (thn (hb pins s1 σ H1 _ I1 q1) fun u s2 ⟨y,H2,I2,r2,q2⟩=>
  thn (ho pins s2 σ H2 x y v u _ I2 r1 r2 q2) fun d' s3 ⟨z,H3,I3,r3,k,e,q3⟩=>?_)) hm
 subst e
 cases r3
 refine wpAny_truthy_bool ?_
 cases k with
 | false=>
   obtain ⟨k',e',q'⟩:=q3
   cases e'
   exact ite_ff ⟨H3,I3,q'⟩
 | true=>
   refine ite_tt (test_link (thn (hc pins s3 σ H3 _ I3 q3) fun w' s4 ⟨z',H4,I4,r4,q4⟩=>thn (ho' pins s4 σ H4 y z' u w' _ I4 r2 r4 q4) fun d'' s5 ⟨z2,H5,I5,r5,k2,e2,q5⟩=>?_))
   subst e2
   cases r5
   refine wpAny_truthy_bool ?_
   cases k2 with
   | false=>
     obtain ⟨k',e',q'⟩:=q5
     cases e'
     exact ite_ff ⟨H5,I5,q'⟩
   | true=>
     refine ite_tt (test_last (thn (hd pins s5 σ H5 _ I5 q5) fun w2 s6 ⟨z3,H6,I6,r6,q6⟩=>thn (ho'' pins s6 σ H6 z' z3 w' w2 _ I6 r4 r6 q6) fun d3 s7 ⟨z4,H7,I7,r7,k3,e3,q7⟩=>?_))
     subst e3
     cases r7
     exact wpAny_truthy_bool ⟨H7,I7,q7⟩
end
abbrev TF:=Str->St->Hp->VK->Prop
def PF (X:Cx) (es:List Expr) (t:TF):Prop:=
 ∀ (out:Str) (pins:List (Addr×Obj)) (s:Shared) (σ:St) (H:Hp) (Q:VK),Inv X pins σ H s->t out σ H Q->wpAny (model X.prog X.w) X.A (joinParts out (evalEach es X.env)) (EP X pins σ Q) X.xe s
def FmtV (x:V) (y:Str):Prop:=(x=.str y/\y.length≤sizeLine)∨∃ i:Int,x=.int i/\i.natAbs.log2<1920/\y=Str.ofString (toString i)
section
variable {X:Cx} {es:List Expr} {t:TF} {e:Expr} {te:TE} {pos:Pos}
theorem pf_nil:PF X [] (fun out _ H Q=>out.length≤sizeLine/\Q (.str out) H):=fun out pins s σ H Q I h=>joinParts_nil ⟨.str out,H,I.tok _,⟨_,rfl⟩,h.2⟩ h.1
theorem pf_txt {x:Str} {j:Nat} (hr:PF X es t) (hs:evalEach (.Constant (.str x) j pos::es) X.env=eval (.Constant (.str x) j pos) X.env::evalEach es X.env:=by rfl) :
 PF X (.Constant (.str x) j pos::es) (fun out σ H Q=>(out++x).length≤sizeLine/\t (out++x) σ H Q):=by
 intro out pins s σ H Q I h
 rw [hs]
 exact joinParts_cons (Calls.Constant_str ⟨h.1,hr (out++x) pins _ σ H Q (I.tok _) h.2⟩)
theorem pf_val (he:PE X e te) (hr:PF X es t) (hs:evalEach (.FormattedValue e (-1) none pos::es) X.env=eval (.FormattedValue e (-1) none pos) X.env::evalEach es X.env:=by rfl) :
 PF X (.FormattedValue e (-1) none pos::es) (fun out σ H Q=>te σ H fun x H1=>∃ y,FmtV x y/\(out++y).length≤sizeLine/\t (out++y) σ H1 Q):=by
 intro out pins s σ H Q I h
 rw [hs]
 refine joinParts_cons (FormattedValue_plain (thn (he pins s σ H _ I h) fun v s1 ⟨x,H1,I1,r1,y,fm,hl,q⟩=>?_))
 rcases fm with ⟨rfl,hy⟩|⟨i,rfl,hi,rfl⟩
 ·obtain ⟨tk,rfl⟩:=r1
  exact formatField_str (fun t' tk=>⟨hl,hr _ pins _ σ H1 Q (I1.tok tk) q⟩) hy
 ·obtain ⟨tk,rfl⟩:=r1
  exact formatField_int_small hi ⟨hl,hr _ pins _ σ H1 Q (I1.tok _) q⟩
def tFstr (t:TF):TE:=fun σ H Q=>t Str.empty σ H Q
theorem pe_fstr {e1 e2:Expr} (h:PF X (e1::e2::es) t) (hs:evalEach (e1::e2::es) X.env=eval e1 X.env::eval e2 X.env::evalEach es X.env:=by rfl):PE X (.JoinedStr (e1::e2::es) pos) (tFstr t):=by
 intro pins s σ H Q I hw
 refine JoinedStr_many ?_
 rw [← hs]
 exact h _ pins s σ H Q I hw
end
section
variable {X:Cx} {CX:CXT} {k:Nat} {f C:Addr} {fd:FuncData} {ps:List Str} {sp:Sp} {E:XK}
end
end L2
namespace HT
open PySem PySem.Spec PyProof.Rows
section
variable {prog:Program} {w:World} {A:Around} {E:Value->Shared->Prop} {s:Shared}
end
end HT
namespace L2
open PySem PySem.Spec PyProof.Rows PySem.SeqAt
section
variable {X:Cx}
end
section
variable {X:Cx}
end
section
variable {X:Cx} {CX:CXT} {k:Nat} {f C:Addr} {fd:FuncData} {ps:List Str} {sp:Sp} {E:XK}
end
section
variable {X:Cx} {pins:List (Addr×Obj)} {σ:St} {H:Hp} {s:Shared} {h':Heap}
end
section
variable {M:Model} {A:Around} {E:Value->Shared->Prop} {s:Shared}
end
section
variable {X:Cx} {pins:List (Addr×Obj)} {σ:St} {H:Hp} {s:Shared} {e:Addr} {cls:Value} {dd:Option Addr}
end
section
variable {P:Program} {w:World} {K:PySem.W.Frag} {mg:Str->Option Value} {base:Heap} {N:List Str} {qual:Str} {scope:Scope} {f:Addr} {cd:Value} {A:Around} {outer:List Env} {s:Shared} {H:Hp} {E:XK}
end
end L2
namespace L2
open PySem PySem.Spec PyProof.Rows PySem.SeqAt PySem.W
section
variable {prog:Program} {w:World} {A:Around} {C:Addr} {R:Result->Shared->Prop} {h:Heap} {g:Array GenState} {d:Drawn} {t:Nat} {os:OsState} {B newId initId:String} {bm:List Value}
end
end L2
namespace L2
open PySem PySem.Spec PyProof.Rows PySem.SeqAt PySem.W Builtin.ObjectAttr
section
variable {prog:Program} {w:World} {A:Around} {R:Result->Shared->Prop} {s:Shared} {K:Frag} {x C:Addr} {name:Str}
end
section
variable {prog:Program} {w:World} {A:Around} {E:Value->Shared->Prop} {s:Shared} {K:Frag} {x C:Addr} {name:Str} {v:Value} {tk:Tok} {Q:Fin->Shared->Prop} {vs:Array Value} {sl:Array (Option Value)}
end
section
variable {X:Cx} {pins:List (Addr×Obj)} {σ:St} {H:Hp} {s:Shared} {e C:Addr} {f:Str} {B newId:String} {A:Around} {E:Value->Shared->Prop} {y:V} {u:Value} {Q:Unit->Shared->Prop}
end
section
variable {X:Cx} {CX:CXT} {k:Nat} {f C:Addr} {fd:FuncData} {ps:List Str} {sp:Sp} {dvs:List V} {ds:List Value} {E:XK} {B newId initId:String} {bm:List Value}
end
section
variable {X:Cx} {pins:List (Addr×Obj)} {σ:St} {H:Hp} {s:Shared} {e C:Addr} {dd:Option Addr}
end
section
variable {X:Cx} {pins:List (Addr×Obj)} {σ:St} {H:Hp} {s:Shared} {e C:Addr} {f:Str} {B newId initId:String} {bm:List Value} {A:Around} {E:Value->Shared->Prop} {y:V} {u:Value} {Q:Unit->Shared->Prop}
end
section
variable {X:Cx} {CX:CXT} {k:Nat} {f C CS:Addr} {fd:FuncData} {ps:List Str} {sp:Sp} {dvs:List V} {ds:List Value} {E:XK} {m tn cn:Str} {T id:String} {p pos apos:Pos} {e:Expr} {es:List Expr} {t:TA} {r:List V->Hp->VK->Prop} {mc:Value}
end
end L2
namespace L2
open PySem PySem.Spec PyProof.Rows
section
variable {X:Cx} {pins:List (Addr×Obj)} {σ:List (Option V)} {H H':Hp} {s:Shared} {h':Heap}
end
end L2
namespace L2
open PySem PySem.Spec PyProof.Rows PySem.SeqAt PySem.W Builtin.ObjectAttr
section
variable {X:Cx} {pins:List (Addr×Obj)} {σ σ0:St} {H H0:Hp} {s s0:Shared} {e:Addr} {cls:Value} {dd:Option Addr}
end
section
variable {X:Cx} {pins:List (Addr×Obj)} {σ σ0:St} {H H0:Hp} {s s0:Shared} {e:Addr} {cls:Value} {dd:Option Addr}
end
section
variable {X:Cx} {pins:List (Addr×Obj)} {σ σ0:St} {H H0:Hp} {s s0:Shared} {e:Addr} {cls:Value} {dd:Option Addr}
end
section
variable {X:Cx}
end
section
variable {X:Cx}
end
section
variable {X:Cx}
end
section
variable {prog:Program} {w:World} {A:Around} {E:Value->Shared->Prop} {s:Shared} {K:Frag} {x C:Addr} {ox:Obj} {od:Option Obj} {name:Str} {expr:Bool} {Q:Value->Shared->Prop}
end
section
variable {X:Cx} {e:Expr} {f:Str} {pos:Pos} {ta:TE} {ea C:Addr} {oe:Obj} {dd:Option Addr}
end
end L2
namespace L2
open PySem PySem.Spec PyProof.Rows
section
variable {P:Program} {w:World} {K:PySem.W.Frag} {mg:Str->Option Value} {base:Heap}
end
section
variable {X:Cx} {e:Expr} {f:Str} {pos:Pos} {ta:TE} {ea C:Addr} {oe:Obj} {ps:List (Addr×Obj)} {dd:Option Addr}
end
end L2
namespace L2
open PySem PySem.Spec PyProof.Rows PySem.W
section
variable {P:Program} {w:World} {K:Frag} {mg:Str->Option Value} {base:Heap} {N:List Str} {qual:Str} {scope:Scope} {f:Addr} {cd:Value} {cl:List (Str×Addr)} {A:Around} {outer:List Env} {s:Shared} {H:Hp} {E:XK}
end
section
variable {X:Cx} {pins:List (Addr×Obj)} {σ:St} {H:Hp} {s:Shared} {h':Heap} {P c':Addr} {ps more:Array Value} {qual:Str}
end
section
variable {X:Cx} {CX:CXT} {k:Nat} {f C:Addr} {fd:FuncData} {ps:List Str} {sp:Shared->List Env->Sp} {E:XK} {x:Str} {p pos:Pos} {e:Expr} {es:List Expr} {t:TA}
end
end L2
namespace L2
open PySem PySem.Spec PyProof.Rows
end L2
namespace L2
open PySem PySem.Spec PyProof.Rows PySem.W
end L2
namespace L2
open PySem PySem.Spec PyProof.Rows PySem.SeqAt
section
variable {X:Cx}
end
section
variable {X:Cx} {tg:Expr}
end
section
variable {X:Cx}
end
section
variable {prog:Program} {w:World} {A:Around} {E:Value->Shared->Prop} {s:Shared} {l:Addr} {x y:Value}
end
section
variable {X:Cx} {pos:Pos}
end
section
variable {X:Cx} {CX:CXT} {k:Nat} {f C:Addr} {fd:FuncData} {ps ks:List Str} {sp:Sp} {E:XK} {x m:Str} {p pos apos kpos:Pos} {e o:Expr} {es:List Expr} {kws:List Keyword} {te ta:TE} {t tk:TA}
def tMakeK (C:Addr) (sp:Sp) (gV:List V->List V->List V) (E:XK) (t tk:TA):TE:=fun σ H Q=>t σ H fun vs H1=>tk σ H1 fun zs H2=>∀ x dx,H2 x=none->H2 dx=none->dx≠x->
 sp (gV (.ref x::vs) zs) (upd (upd H2 dx (.own x)) x (.ins C dx [])) (fun v H3=>v=.non/\Q (.ref x) H3) E
variable {g:List Value->List Value->List Value} {gV:List V->List V->List V}
theorem run_makeK {pins:List (Addr×Obj)} {σ:St} {H:Hp} {s:Shared} {Q:VK} {us ws:List Value} {vs zs:List V} (M:Mk X.K C f) (F:FnOk X.prog X.w X.K X.mg X.base CX k f fd ps sp) (hr:Room (k+1) X.A) (hb:KBinds X.K fd ps ks g gV)
 (hx:Passes CX X E) (I:Inv X pins σ H s) (r:Vals vs us) (rz:Vals zs ws)
 (h:∀ x dx,H x=none->H dx=none->dx≠x->sp (gV (.ref x::vs) zs) (upd (upd H dx (.own x)) x (.ins C dx [])) (fun v H2=>v=.non/\Q (.ref x) H2) E) :
 wpAny (model X.prog X.w) X.A (call (.ref C) us (ks.zip ws)) (EP X pins σ Q) X.xe s:=by
 have hq:=h (s.heap.objs.size+1) s.heap.objs.size (I.hok.fresh (Nat.le_succ _)) (I.hok.fresh (Nat.le_refl _)) (Nat.ne_of_lt (Nat.lt_succ_self _))
 have I2:=Inv.made (C:=C) I
 have r2:Vals (gV (V.ref (s.heap.objs.size+1)::vs) zs) (g (Value.ref (s.heap.objs.size+1)::us) ws):=hb.rel (.cons rfl r) rz
 have hl:(g (Value.ref (s.heap.objs.size+1)::us) ws).length=ps.length:=by
  have e:=r2.length
  rw [F.len _ _ _ _ hq] at e
  exact e.symm
 refine wpAny_call (make_map (f:=f) I.kIn M.makes M.init (beq_iff_eq.mp M.fn) (codeAny_mono (F.run _ X.stack _ _ ⟨Value.ref (s.heap.objs.size+1)::us,ks.zip ws⟩ (g (Value.ref (s.heap.objs.size+1)::us) ws) _ _ E (hr.make C us (ks.zip ws))
  (I2.env0.make C us (ks.zip ws)) (hb.to _ (Value.ref (s.heap.objs.size+1)::us) ws I2.kIn hl) r2 hq) fun r s' hq'=>?_))
 cases r with
 |error e=>exact hx pins σ _ _ e s' I2 hq'
 | ok fl=>
   cases fl with
   | ret u=>
     obtain ⟨v,H',I3,rv,ev,q3⟩:=I2.after hq'
     subst ev
     exact ⟨rv,⟨V.ref (s.heap.objs.size+1),H',I3,rfl,q3⟩⟩
   |next=>exact False.elim hq'
   |brk=>exact False.elim hq'
   |cont=>exact False.elim hq'
theorem pe_makeK0 (M:Mk X.K C f) (F:FnOk X.prog X.w X.K X.mg X.base CX k f fd ps sp) (hr:Room (k+1) X.A) (hg:Gl X x) (hm:X.mg x=some (.ref C)) (hb:KBinds X.K fd ps ks g gV) (hx:Passes CX X E)
 (hkw:PK X kws tk) (hall:(backToKw pos (keywordEach kws X.env)).all (·.1.isSome)=true:=by rfl) (hks:(backToKw pos (keywordEach kws X.env)).filterMap (·.1)=ks:=by rfl)
 (hdb:(x == ("__debug__" : Str))=false:=by decide) (hpl:((backTo pos (starEach [] X.env)).any (·.1) || (backToKw pos (keywordEach kws X.env)).any (·.1.isNone))=false:=by rfl) :
 PE X (.Call (.Name x p) [] kws pos) (tMakeK C sp gV E tNil tk):=by
 intro pins s σ H Q I h
 refine wpAny_Call_Name_kw (ld_glob I hg hm ?_ hdb)
 refine PySem.W.callWith_KW0 (h₀:=X.base) I.ok.mod.kin M.kp hall ?_ hpl
 refine thn (hkw pos pins s σ H _ I h) fun ws s2 ⟨zs,H2,I2,rz,q2⟩=>⟨I2.kIn,?_⟩
 rw [hks]
 exact run_makeK (us:=[]) (vs:=[]) M F hr hb hx I2 .nil rz q2
end
end L2
namespace L2
open PySem PySem.Spec PyProof.Rows PySem.W
end L2
namespace L2
open PySem PySem.Spec PyProof.Rows
section
variable {X:Cx} {scope:Scope} {own:List Str} {js:List Nat} {N':List Str} {wi:TI} {g:TG} {tt:TT} {tk tv:TE} {ke ve tg iter:Expr} {ifs:List Expr} {pos:Pos}
end
end L2
namespace L2
open PySem PySem.Spec PyProof.Rows PySem.SeqAt
theorem len1 {α:Type} {us:List α} (h:us.length=1):∃ a,us=[a]:=List.length_eq_one_iff.mp h
theorem len2 {α:Type} {us:List α} (h:us.length=2):∃ a b,us=[a,b]:=by
 cases us with
 |nil=>cases h
 | cons a r=>
   obtain ⟨b,rfl⟩:=len1 (us:=r) (by simpa using h)
   exact ⟨a,b,rfl⟩
theorem len3 {α:Type} {us:List α} (h:us.length=3):∃ a b c,us=[a,b,c]:=by
 cases us with
 |nil=>cases h
 | cons a r=>
   obtain ⟨b,c,rfl⟩:=len2 (us:=r) (by simpa using h)
   exact ⟨a,b,c,rfl⟩
theorem len4 {α:Type} {us:List α} (h:us.length=4):∃ a b c d,us=[a,b,c,d]:=by
 cases us with
 |nil=>cases h
 | cons a r=>
   obtain ⟨b,c,d,rfl⟩:=len3 (us:=r) (by simpa using h)
   exact ⟨a,b,c,d,rfl⟩
end L2
namespace L2
open PySem PySem.Spec PyProof.Rows
section
variable {X:Cx}
end
theorem comp_listF {K:PySem.W.Frag} {a:Addr} {xs:List V} {g:TG} {tt:TT} {te:TE} {F:List V->Hp->Prop} {σ0:St} {H0:Hp} (Pv:Nat->List V->St->Hp->Prop) (hn:xs.length≤sizeLine) (h0:Pv 0 [] σ0 H0) (hq:∀ i ys σ H,i≤xs.length->Pv i ys σ H->SqL K H a xs)
 (hs:∀ i x ys σ H,xs[i]?=some x->Pv i ys σ H->∀ N:List V->St->Hp->Prop,(∀ ys' σ' H',Pv (i+1) ys' σ' H'->ys'.length≤ys.length+1->N ys' σ' H')->g x σ H fun σ2 H2=>tt σ2 H2 fun b H3=>if b=true then te σ2 H3 fun y H4=>N (ys++[y]) σ2 H4 else N ys σ2 H3)
 (hd:∀ ys σ H,ys.length≤xs.length->Pv xs.length ys σ H->F ys H) :
 ∃ W:Nat->Nat->List V->St->Hp->Prop,(∃ m,W 0 m [] σ0 H0)/\CTurn (Itl K a) g tt te F W:=by
 refine ⟨fun i m ys σ H=>m=xs.length-i/\i≤xs.length/\ys.length≤i/\Pv i ys σ H,⟨xs.length,by simp,Nat.zero_le _,Nat.zero_le _,h0⟩,?_⟩
 rintro i m ys σ H ⟨rfl,hi,hl,p⟩
 have q:=hq i ys σ H hi p
 by_cases hlt:i<xs.length
 ·refine .inr ⟨⟨xs,xs[i],q,by simp [hlt]⟩,by omega,fun x H' y=>?_⟩
  obtain ⟨e,y⟩:=y
  subst e
  refine hs i x ys σ _ (y xs q) p (fun ys' σ' H'=>∃ m',m'<xs.length-i/\m'=xs.length-(i+1)/\i+1≤xs.length/\ys'.length≤i+1/\Pv (i+1) ys' σ' H') fun ys' σ' H' q hl'=>⟨xs.length-(i+1),by omega,rfl,hlt,by omega,q⟩
 ·have e:i=xs.length:=by omega
  subst e
  exact .inl ⟨⟨xs,q,Nat.le_refl _⟩,hd ys σ H hl p⟩
end L2
namespace L2
open PySem PySem.Spec PyProof.Rows PySem.SeqAt
def EvE (t:TE) (σ:St) (H:Hp) (v:V):Prop:=∀ Q:VK,Q v H->t σ H Q
def EvT (t:TT) (σ:St) (H:Hp) (b:Bool):Prop:=∀ Q:Bool->Hp->Prop,Q b H->t σ H Q
def EvR (r:R2) (x y:V) (H:Hp) (v:V):Prop:=∀ Q:VK,Q v H->r x y H Q
section
variable {σ:St} {H:Hp} {ta tb tc:TE} {t u:TT} {x y z v:V} {r r':R2} {k k':Bool} {f:TF} {m n:Nat}
theorem EvE.var {i:Nat} (h:σ[i]?=some (some v)):EvE (tVar i) σ H v:=fun Q q=>⟨v,h,q⟩
theorem EvE.con:EvE (tC v) σ H v:=fun Q q=>q
theorem EvR.i0 {g:Int->Int->V} {i j:Int}:EvR (rI0 g) (.int i) (.int j) H (g i j):=fun Q q=>⟨i,j,rfl,rfl,q⟩
theorem EvT.test {t:TE} (a:EvE t σ H (.bl k)):EvT (tTest t) σ H k:=fun Q q=>a _ ⟨k,rfl,q⟩
theorem EvE.chain (a:EvE ta σ H x) (b:EvE tb σ H y) (c:EvE tc σ H z) (h:EvR r x y H (.bl k)) (h':EvR r' y z H (.bl k')):EvE (tChain r r' ta tb tc) σ H (.bl (k && k')):=fun Q q=>a _ (b _ (h _ ⟨k,rfl,by
 cases k with
 |false=>exact ifF rfl q
 |true=>exact ifT rfl (c _ (h' _ q))⟩))
theorem EvT.not (a:EvT t σ H k):EvT (tNot t) σ H (!k):=fun Q q=>a _ q
theorem EvT.iff {D:Ends} {a b:TS} (h:EvT t σ H k) (q:if k=true then a D σ H else b D σ H):tIfS t a b D σ H:=h _ q
end
variable {X:Cx}
def rNeL (K:PySem.W.Frag):R2:=fun x y H Q=>∃ d e,Rep K H x (.list d)/\Rep K H y (.list e)/\pdDeps d≤60/\Q (.bl (!pdEqs d e)) H
theorem op_neL (hu:X.A.units+64<cLine):OpR X (compareOp .NotEq) (rNeL X.K):=by
 intro pins s σ H x y v u Q I rx ry h
 obtain ⟨d,e,h1,h2,hd,q⟩:=h
 cases h1 with
 | lst g1 rs1=>
   cases h2 with
   | lst g2 rs2=>
     cases (show v=Value.ref _ from rx)
     cases (show u=Value.ref _ from ry)
     obtain ⟨its1,rv1,p1,_⟩:=I.list g1
     obtain ⟨its2,rv2,p2,_⟩:=I.list g2
     have hz:=allEq (X:=X) (H:=H) (A:=X.A) rs1 rs2 rv1 rv2
     by_cases hs:its1.toArray.size=its2.toArray.size
     ·have hw:=RcNeAt.lists (A:=X.A) p1.isList p2.isList hs (by omega)
       (e:=fun j=>pdEq (d.getD j .none) (e.getD j .none)) (fun j h1 h2=>by simpa using eqs_at I rs1 rs2 rv1 rv2 (A:=X.A.in1) (by show X.A.units+1+_<_;omega) j (by simpa using h1) (by simpa using h2))
      rw [← hs,Nat.min_self,beq_self_eq_true,Bool.and_true] at hz
      rw [hz] at hw
      exact hw _ _ _ _ ⟨.bl _,H,I,rfl,q⟩
     ·have hw:=RcNeAt.lists_lengths (A:=X.A) p1.isList p2.isList (by simpa using hs) (by omega)
      have:pdEqs d e=false:=by
       rw [← hz,beq_eq_false_iff_ne.mpr hs,Bool.and_false]
      rw [this] at q
      exact hw _ _ _ _ ⟨.bl _,H,I,rfl,q⟩
section
variable {σ:St} {H:Hp} {ta tb:TE} {k k':Bool} {x y:V}
end
section
variable {X:Cx}
end
section
variable {X:Cx}
end
section
variable {X:Cx}
end
end L2
namespace L2
open PySem PySem.Spec PyProof.Rows
section
variable {X:Cx} {pins:List (Addr×Obj)} {σ:St} {H:Hp} {s:Shared}
end
section
variable {X:Cx} {scope:Scope} {own:List Str} {js:List Nat} {N':List Str} {wi:TI} {g:TG} {tt:TT} {te:TE} {elt tg iter:Expr} {ifs:List Expr} {pos:Pos}
end
end L2
namespace L2
open PySem
theorem pi_listK {X:Cx} {tg l:Expr} {tl:TE} {K:PySem.W.Frag} (hK:X.K=K) (hl:PE X l tl):PI X tg l (iList K tl):=by
 subst hK
 exact pi_list hl
end L2
namespace L2
open PySem PySem.Spec PyProof.Rows PySem.SeqAt
section
variable {prog:Program} {w:World} {A:Around} {E:Value->Shared->Prop} {s:Shared}
end
section
variable {prog:Program} {w:World} {A:Around} {E:Value->Shared->Prop} {s:Shared}
end
variable {X:Cx}
end L2
namespace L2
open PySem PySem.Spec PyProof.Rows PySem.W PyProof.V
section
variable {X:Cx} {pins:List (Addr×Obj)} {σ:St} {H:Hp} {s:Shared} {a:Addr} {D:List (Str×PyData)}
end
end L2
namespace L2
open PySem PySem.Spec PyProof.Rows PySem.SeqAt PySem.Builtin PySem.Builtin.Str
section
variable {X:Cx}
end
end L2
namespace L2
open PySem PySem.Spec PyProof.Rows PySem.SeqAt
section
variable {X:Cx}
end
section
variable {X:Cx}
end
end L2
namespace L2
open PySem PySem.Spec PyProof.Rows PySem.SeqAt PySem.Builtin PySem.Builtin.Str
section
variable {X:Cx}
end
section
variable {X:Cx}
end
section
variable {X:Cx}
end
section
variable {X:Cx}
end
end L2
namespace L2
open PySem PySem.Spec PyProof.Rows PySem.SeqAt
section
variable {X:Cx}
end
section
variable {X:Cx} {pins:List (Addr×Obj)} {σ:St} {H:Hp} {s:Shared} {h':Heap}
end
end L2
namespace L2
open PySem PySem.Spec PyProof.Rows PySem.SeqAt PySem.Builtin PySem.Builtin.Str
section
variable {X:Cx}
end
section
variable {prog:Program} {w:World} {A:Around} {E:Value->Shared->Prop} {s:Shared} {l:Addr}
end
section
variable {X:Cx} {pos:Pos}
end
end L2
namespace L2
open PySem PySem.Spec PyProof.Rows PySem.SeqAt PySem.Builtin
variable {X:Cx} {pos:Pos}
end L2
namespace L2
open PySem PySem.Spec PyProof.Rows PySem.SeqAt PySem.W Builtin.ObjectAttr
end L2
namespace L2
open PySem PySem.Spec PyProof.Rows PySem.SeqAt PySem.W
variable {X:Cx}
end L2
namespace L2
open PySem PySem.Spec PyProof.Rows
def CTurnS (J:It) (g:TG) (tt:TT) (te:TE) (F:List V->St->Hp->Prop) (W:Nat->Nat->List V->St->Hp->Prop):Prop:=
 ∀ i m ys σ H,W i m ys σ H->(J.stop i H/\F ys σ H)∨(J.go i H/\ys.length<sizeLine/\∀ x H1,J.yld i H x H1->g x σ H1 fun σ2 H2=>tt σ2 H2 fun b H3=>
   if b=true then te σ2 H3 fun y H4=>∃ m',m'<m/\W (i+1) m' (ys++[y]) σ2 H4 else ∃ m',m'<m/\W (i+1) m' ys σ2 H3)
def CTurn2 (J:It) (g:TG) (tt:TT) (wi2:TI) (g2:TG) (tt2:TT) (te:TE) (F:List V->Hp->Prop) (W:Nat->Nat->List V->St->Hp->Prop):Prop:=
 ∀ i m ys σ H,W i m ys σ H->(J.stop i H/\F ys H)∨(J.go i H/\∀ x H1,J.yld i H x H1->g x σ H1 fun σ2 H2=>tt σ2 H2 fun b H3=>
   if b=true then wi2 σ2 H3 fun J2 H4=>∃ W2:Nat->Nat->List V->St->Hp->Prop,(∃ m2,W2 0 m2 ys σ2 H4)/\CTurnS J2 g2 tt2 te (fun ys' σ' H'=>∃ m',m'<m/\W (i+1) m' ys' σ' H') W2
   else ∃ m',m'<m/\W (i+1) m' ys σ2 H3)
theorem compTurn_in (elt:Expr) (g0:Comprehension) (target iter:Expr) (ifs:List Expr) (scope:Scope) (pos:Pos) (it acc:Value) (env:Env) :
 compTurn (.ListComp elt [g0,⟨target,iter,ifs,0⟩] scope pos) 1 it acc env=(do
  standAt iter.pos
  match ← pyNext it with
  |none=>pure (.done .next)
  | some v=>
    letOwnedTupleGo target it v
    assign target env v
    let mut ok:=true
    for c in ifs do
     if ok then ok ← isTrue c env (eval c env)
    if ok then
     (do let _ ← call (.builtin "list.append") [acc,← eval elt env])
    again (.compLoop (.ListComp elt [g0,⟨target,iter,ifs,0⟩] scope pos) 1 it acc env)):=by rfl
theorem compTurn_out (elt target iter:Expr) (ifs:List Expr) (target2 iter2:Expr) (ifs2:List Expr) (scope:Scope) (pos:Pos) (it acc:Value) (env:Env) :
 compTurn (.ListComp elt [⟨target,iter,ifs,0⟩,⟨target2,iter2,ifs2,0⟩] scope pos) 0 it acc env=(do
  standAt iter.pos
  match ← pyNext it with
  |none=>pure (.done .next)
  | some v=>
    letOwnedTupleGo target it v
    assign target env v
    let mut ok:=true
    for c in ifs do
     if ok then ok ← isTrue c env (eval c env)
    if ok then
     let x ← eval iter2 env
     standAt iter2.pos
     let x ← foldedSetIterable iter2 env x
     let _ ← runOwn (.compStart (.ListComp elt [⟨target,iter,ifs,0⟩,⟨target2,iter2,ifs2,0⟩] scope pos) 1 (← holding [x] (pyIter x)) acc env) env
    again (.compLoop (.ListComp elt [⟨target,iter,ifs,0⟩,⟨target2,iter2,ifs2,0⟩] scope pos) 0 it acc env)):=by rfl
theorem codeAny_compStart_in {prog:Program} {w:World} {A:Around} {R:Result->Shared->Prop} {s:Shared} {elt g0 target iter ifs scope pos it acc env}
 (h0:codeAny (model prog w) A (.compLoop (.ListComp elt [g0,⟨target,iter,ifs,0⟩] scope pos) 1 it acc env) R s)
 (h:wpAny (model prog w) A (pyIter it) (fun it' s'=>codeAny (model prog w) A (.compLoop (.ListComp elt [g0,⟨target,iter,ifs,0⟩] scope pos) 1 it' acc env) R s')
  (notedBy (model prog w) A env fun x s'=>R (.error x) s') s) :
 codeAny (model prog w) A (.compStart (.ListComp elt [g0,⟨target,iter,ifs,0⟩] scope pos) 1 it acc env) R s:=by
 refine codeAny_of_tree ?_
 show wpAny _ _ ((compStart (.ListComp elt [g0,⟨target,iter,ifs,0⟩] scope pos) 1 it acc env).onRaise (fun x=>do noteFrame x env;standAt theWindowsPlace)) _ _ s
 refine wpAny_notedAt ?_
 unfold compStart
 show wpAny _ _ (ask >>= _) _ _ s
 refine wpAny_bind (wpAny_askSetting (wpAny_ite ?_))
 split
 ·first
   |exact wpAny_bind (wpAny_pure (wpAny_pure (And.intro rfl h0)))
   |exact wpAny_pure (And.intro rfl h0)
 ·first
   |exact wpAny_bind (wpAny_rule (wpAny_bind (wpAny_standAt (wpAny_bind (wpAny_mono h (fun it' s' h'=>wpAny_pure (And.intro rfl h')) fun _ _ x=>x)))))
   |(refine wpAny_bind (wpAny_rule ?_);show wpAny _ _ (standAt iter.pos >>= _) _ _ s;exact wpAny_bind (wpAny_standAt (wpAny_bind (wpAny_mono h (fun it' s' h'=>wpAny_pure (And.intro rfl h')) fun _ _ x=>x))))
theorem comp_inner {Y:Cx} {ps:List (Addr×Obj)} {acc it:Addr} {fp:List Addr} {tn:Nat->Heap->Prop} {J:It} {g:TG} {tt:TT} {te:TE} {F:List V->St->Hp->Prop}
 {elt tg iter:Expr} {g0:Comprehension} {ifs:List Expr} {scope:Scope} {pos:Pos} {R:Result->Shared->Prop} (W:Nat->Nat->List V->St->Hp->Prop) (turn:CTurnS J g tt te F W) (T:Turn Y.prog Y.w Y.K tg J fp it tn)
 (hg:PG Y tg g) (hc:PIfs Y ifs tt) (he:PE Y elt te) (hcalm:Y.calm=true) (hx:∀ v s,¬ Y.xe v s)
 (hfp:∀ b∈fp,b≠Y.env.locals/\b∉Y.fs/\(b∈Y.ex∨Y.s₀.heap.objs.size≤b)/\(∀ x c,Y.env.cells.lookup x=some c->c≠b)/\(∀ p∈Y.pn++ps,p.1≠b)/\b≠acc)
 (hacc:acc≠Y.env.locals/\acc∉Y.fs/\(acc∈Y.ex∨Y.s₀.heap.objs.size≤acc)/\(∀ x c,Y.env.cells.lookup x=some c->c≠acc)/\∀ p∈Y.pn++ps,p.1≠acc)
 (hR:∀ s' σ' H' ys us k,Inv Y ((acc,accObj us k)::ps) σ' H' s'->Vals ys us->F ys σ' H'->R (.ok .next) s')
 {s:Shared} {σ:St} {H:Hp} {m:Nat} {ys0:List V} {us0:List Value} {k0:Nat} (rv0:Vals ys0 us0) (I:Inv Y ((acc,accObj us0 k0)::ps) σ H s) (st:tn 0 s.heap) (fr:∀ b∈fp,H b=none) (w0:W 0 m ys0 σ H) :
 codeAny (model Y.prog Y.w) Y.A (.compLoop (.ListComp elt [g0,⟨tg,iter,ifs,0⟩] scope pos) 1 (.ref it) (.ref acc) Y.env) R s:=by
 refine codeAny_loop rfl (fun n s'=>∃ i ys us k σ' H',Vals ys us/\Inv Y ((acc,accObj us k)::ps) σ' H' s'/\tn i s'.heap/\(∀ b∈fp,H' b=none)/\W i n ys σ' H') (fun n s3 hI=>?_) m ⟨0,ys0,us0,k0,σ,H,rv0,I,st,fr,w0⟩
 obtain ⟨i,ys,us,k,σ3,H3,rv,I3,st3,fr3,w3⟩:=hI
 show wpAny _ Y.A ((compTurn (.ListComp elt [g0,⟨tg,iter,ifs,0⟩] scope pos) 1 (.ref it) (.ref acc) Y.env).onRaise (fun x=>do noteFrame x Y.env;theTreesLotGoes x)) _ _ s3
 refine wpAny_noted ?_
 rw [compTurn_in]
 have fpk:∀ {H':Hp},(∀ b∈fp,H' b=none)->∀ b∈fp,FpOk Y ((acc,accObj us k)::ps) H' b:=fun hn b hb=>
  ⟨hn b hb,(hfp b hb).1,(hfp b hb).2.1,(hfp b hb).2.2.1,(hfp b hb).2.2.2.1,fun p hp'=>by
   rcases List.mem_append.mp hp' with z|z
   ·exact (hfp b hb).2.2.2.2.1 p (List.mem_append_left _ z)
   ·rcases List.mem_cons.mp z with rfl|z
    ·exact Ne.symm (hfp b hb).2.2.2.2.2
    ·exact (hfp b hb).2.2.2.2.1 p (List.mem_append_right _ z)⟩
 have fp1:=fpk fr3
 refine wpAny_bind (wpAny_standAt (wpAny_bind ?_))
 rcases turn i n ys σ3 H3 w3 with ⟨stop,qn⟩|⟨go,hz,step⟩
 ·refine wpAny_mono (T.done Y rfl rfl rfl hcalm i _ s3 σ3 H3 (fun _ _=>False) I3 fp1 st3 stop) (fun r s4 ⟨hr,I4⟩=>?_) (fun _ _ z=>z.elim)
  subst hr
  exact wpAny_pure (hR s4 σ3 H3 ys us k I4 rv qn)
 ·refine wpAny_mono (T.item Y rfl rfl rfl hcalm i _ s3 σ3 H3 (fun _ _=>False) I3 fp1 st3 go) (fun r s4 ⟨u,hr,h4⟩=>?_) (fun _ _ z=>z.elim)
  subst hr
  refine wpAny_bind (wpAny_mono h4 (fun _ s5 ⟨x,H5,I5,r5,y5,st5,fr5⟩=>?_) (fun _ _ z=>z.elim))
  have fp5:=fpk fr5
  have I5':=I5.pinned fp5 (T.obj _ _ st5)
  refine wpAny_bind (wpAny_mono (hg _ s5 σ3 H5 x u _ I5' r5 (step x H5 y5)) (fun _ s6 ⟨σ6,H6,I6,q6⟩=>?_) (fun v s z=>(hx v s z).elim))
  refine wpAny_bind (wpAny_mono (hc _ s6 σ6 H6 _ I6 q6) (fun ok s7 ⟨H7,I7,q7⟩=>?_) (fun v s z=>(hx v s z).elim))
  have again:∀ {s8:Shared} {σ8:St} {H8:Hp},Inv Y (((acc,accObj us k)::ps)++pinsAt fp s5.heap) σ8 H8 s8->tn (i+1) s8.heap/\∀ b∈fp,H8 b=none:=fun {s8 σ8 H8} I8=>
   ⟨T.keep _ _ _ st5 fun b hb o e=>(I8.pin (b,o) (List.mem_append_right _ (List.mem_append_right _ (mem_pinsAt hb e)))).1,fun b hb=>by
    obtain ⟨o,e,d⟩:=T.obj _ _ st5 b hb
    exact (I8.pin (b,o) (List.mem_append_right _ (List.mem_append_right _ (mem_pinsAt hb e)))).2.1⟩
  cases ok with
  | false=>
    rw [if_neg Bool.false_ne_true] at q7
    obtain ⟨m',hm,w7⟩:=q7
    obtain ⟨t1,t2⟩:=again I7
    exact wpAny_pure ⟨rfl,m',hm,i+1,ys,us,k,σ6,H7,rv,I7.unpinned,t1,t2,w7⟩
  | true=>
    rw [if_pos rfl] at q7
    refine wpAny_bind (wpAny_bind (wpAny_mono (he _ s7 σ6 H7 _ I7 q7) (fun y s8 ⟨yv,H8,I8,r8,m',hm,w8⟩=>?_) (fun v s z=>(hx v s z).elim)))
    obtain ⟨t1,t2⟩:=again I8
    obtain ⟨e8,n8,l8,f8,d8⟩:=I8.pin (acc,accObj us k) (List.mem_append_right _ (List.mem_append_left _ List.mem_cons_self))
    have hlen:=rv.length
    have hz':us.toArray.size≤sizeLine:=by rw [List.size_toArray];omega
    refine wpAny_bind (call_meets PySem.F.slot_list_append ⟨_,e8,rfl⟩ PySem.F.entry_list_append (PySem.F.args_list_append_2 _ _) (PySem.list_append acc us.toArray k y hz') ⟨e8,?_⟩)
    have q:=PySem.IsL.update e8 (fun z=>z.push y)
    have I9:Inv Y ps σ6 H8 s8:=I8.pins_of fun p hp=>I8.pin p (List.mem_append_right _ (List.mem_append_left _ (List.mem_cons_of_mem _ hp)))
    have I10:=I9.turned (t':=s8.toks) (it:=acc) (h':=s8.heap.update acc (Obj.mapSeq fun z=>z.push y)) (fun b o hb e=>(Heap.get?_update_other s8.heap _ (Ne.symm hb)).trans e) n8 hacc.1 hacc.2.2.1 hacc.2.2.2.1 hacc.2.2.2.2
    have e':(us.toArray.push y)=(us++[y]).toArray:=by simp
    rw [e'] at q
    obtain ⟨k9,ek⟩:∃ k9,k9=(if ((us++[y]).toArray.size == us.toArray.size)=true then k else k+1):=⟨_,rfl⟩
    rw [← ek] at q
    have I11:=I10.pins_of (pins':=(acc,accObj (us++[y]) k9)::ps) fun p hp=>by
     rcases List.mem_cons.mp hp with rfl|hp
     ·exact ⟨q,n8,hacc.1,hacc.2.1,fun v z=>by cases z⟩
     ·exact I10.pin p (List.mem_append_right _ hp)
    refine wpAny_pure (wpAny_pure ⟨rfl,m',hm,i+1,ys++[yv],us++[y],k9,σ6,H8,rv.append (.cons r8 .nil),I11,T.keep _ _ _ t1 fun b hb o e=>?_,t2,w8⟩)
    exact (Heap.get?_update_other s8.heap _ (hfp b hb).2.2.2.2.2.symm).trans e
theorem comp_loop2 {X:Cx} {scope:Scope} {N':List Str} {cl:List (Str×Addr)} {C acc it:Addr} {s₂:Shared} {H₂:Hp} {fp:List Addr} {tn:Nat->Heap->Prop} {J:It} {g g2:TG} {tt tt2:TT} {wi2:TI} {te:TE} {F:List V->Hp->Prop}
 {elt tg iter tg2 iter2:Expr} {ifs ifs2:List Expr} {pos:Pos} {R:Result->Shared->Prop} (W:Nat->Nat->List V->St->Hp->Prop) (turn:CTurn2 J g tt wi2 g2 tt2 te F W) (T:Turn X.prog X.w X.K tg J fp it tn)
 (hg:PG (cxComp X scope N' cl C s₂ H₂ fp) tg g) (hc:PIfs (cxComp X scope N' cl C s₂ H₂ fp) ifs tt) (hi2:PI (cxComp X scope N' cl C s₂ H₂ fp) tg2 iter2 wi2) (hs2:∀ x,foldedSetIterable iter2 (compEnvC scope cl C X.env) x=pure x) (hg2:PG (cxComp X scope N' cl C s₂ H₂ fp) tg2 g2) (hc2:PIfs (cxComp X scope N' cl C s₂ H₂ fp) ifs2 tt2) (he:PE (cxComp X scope N' cl C s₂ H₂ fp) elt te) (hcalm:X.calm=true)
 (hfp:∀ b∈fp,b≠C/\b∉frs X.stack/\(∀ x c,cl.lookup x=some c->c≠b)/\b≠acc) (hacc:acc≠C/\acc∉frs X.stack/\(∀ x c,cl.lookup x=some c->c≠acc)/\s₂.heap.objs.size≤acc)
 (hR:∀ s' σ' H' ys us k,Inv (cxComp X scope N' cl C s₂ H₂ fp) [(acc,accObj us k)] σ' H' s'->Vals ys us->F ys H'->R (.ok .next) s')
 {s:Shared} {σ:St} {H:Hp} {m:Nat} (I:Inv (cxComp X scope N' cl C s₂ H₂ fp) [(acc,accObj [] 0)] σ H s) (st:tn 0 s.heap) (fr:∀ b∈fp,H b=none) (w0:W 0 m [] σ H) :
 codeAny (model X.prog X.w) X.A (.compLoop (.ListComp elt [⟨tg,iter,ifs,0⟩,⟨tg2,iter2,ifs2,0⟩] scope pos) 0 (.ref it) (.ref acc) (compEnvC scope cl C X.env)) R s:=by
 refine codeAny_loop rfl (fun n s'=>∃ i ys us k σ' H',Vals ys us/\Inv (cxComp X scope N' cl C s₂ H₂ fp) [(acc,accObj us k)] σ' H' s'/\tn i s'.heap/\(∀ b∈fp,H' b=none)/\W i n ys σ' H') (fun n s3 hI=>?_) m ⟨0,[],[],0,σ,H,.nil,I,st,fr,w0⟩
 obtain ⟨i,ys,us,k,σ3,H3,rv,I3,st3,fr3,w3⟩:=hI
 show wpAny _ X.A ((compTurn (.ListComp elt [⟨tg,iter,ifs,0⟩,⟨tg2,iter2,ifs2,0⟩] scope pos) 0 (.ref it) (.ref acc) (compEnvC scope cl C X.env)).onRaise (fun x=>do noteFrame x (compEnvC scope cl C X.env);theTreesLotGoes x)) _ _ s3
 refine wpAny_noted ?_
 rw [compTurn_out]
 have fpk:∀ {pins:List (Addr×Obj)} {H':Hp},(∀ p∈pins,p.1=acc∨p.1∈([]:List Addr))->(∀ b∈fp,H' b=none)->∀ b∈fp,FpOk (cxComp X scope N' cl C s₂ H₂ fp) pins H' b:=fun hp hn b hb=>
  ⟨hn b hb,(hfp b hb).1,(hfp b hb).2.1,.inl hb,(hfp b hb).2.2.1,fun p hp'=>by
   have hp'':p∈([]:List (Addr×Obj))++_:=hp'
   rcases hp p (by simpa using hp'') with z|z
   ·rw [z];exact Ne.symm (hfp b hb).2.2.2
   ·exact (nomatch z)⟩
 have fp1:=fpk (pins:=[(acc,accObj us k)]) (fun p hp=>.inl (by simp at hp;rw [hp])) fr3
 refine wpAny_bind (wpAny_standAt (wpAny_bind ?_))
 rcases turn i n ys σ3 H3 w3 with ⟨stop,qn⟩|⟨go,step⟩
 ·refine wpAny_mono (T.done (cxComp X scope N' cl C s₂ H₂ fp) rfl rfl rfl hcalm i _ s3 σ3 H3 (fun _ _=>False) I3 fp1 st3 stop) (fun r s4 ⟨hr,I4⟩=>?_) (fun _ _ z=>z.elim)
  subst hr
  exact wpAny_pure (hR s4 σ3 H3 ys us k I4 rv qn)
 ·refine wpAny_mono (T.item (cxComp X scope N' cl C s₂ H₂ fp) rfl rfl rfl hcalm i _ s3 σ3 H3 (fun _ _=>False) I3 fp1 st3 go) (fun r s4 ⟨u,hr,h4⟩=>?_) (fun _ _ z=>z.elim)
  subst hr
  refine wpAny_bind (wpAny_mono h4 (fun _ s5 ⟨x,H5,I5,r5,y5,st5,fr5⟩=>?_) (fun _ _ z=>z.elim))
  have fp5:=fpk (pins:=[(acc,accObj us k)]) (fun p hp=>.inl (by simp at hp;rw [hp])) fr5
  have I5':=I5.pinned fp5 (T.obj _ _ st5)
  refine wpAny_bind (wpAny_mono (hg _ s5 σ3 H5 x u _ I5' r5 (step x H5 y5)) (fun _ s6 ⟨σ6,H6,I6,q6⟩=>?_) (fun _ _ z=>z.elim))
  refine wpAny_bind (wpAny_mono (hc _ s6 σ6 H6 _ I6 q6) (fun ok s7 ⟨H7,I7,q7⟩=>?_) (fun _ _ z=>z.elim))
  have again:∀ {s8:Shared} {σ8:St} {H8:Hp} {us8:List Value} {k8:Nat},Inv (cxComp X scope N' cl C s₂ H₂ fp) ((acc,accObj us8 k8)::pinsAt fp s5.heap) σ8 H8 s8->Inv (cxComp X scope N' cl C s₂ H₂ fp) [(acc,accObj us8 k8)] σ8 H8 s8/\tn (i+1) s8.heap/\∀ b∈fp,H8 b=none:=fun {s8 σ8 H8 us8 k8} I8=>
   ⟨Inv.unpinned (pins:=[(acc,accObj us8 k8)]) I8,T.keep _ _ _ st5 fun b hb o e=>(I8.pin (b,o) (List.mem_append_right _ (List.mem_cons_of_mem _ (mem_pinsAt hb e)))).1,fun b hb=>by
    obtain ⟨o,e,d⟩:=T.obj _ _ st5 b hb
    exact (I8.pin (b,o) (List.mem_append_right _ (List.mem_cons_of_mem _ (mem_pinsAt hb e)))).2.1⟩
  cases ok with
  | false=>
    rw [if_neg Bool.false_ne_true] at q7
    obtain ⟨m',hm,w7⟩:=q7
    obtain ⟨I7',t1,t2⟩:=again I7
    exact wpAny_pure ⟨rfl,m',hm,i+1,ys,us,k,σ6,H7,rv,I7',t1,t2,w7⟩
  | true=>
    rw [if_pos rfl] at q7
    refine wpAny_bind (wpAny_mono (hi2 _ s7 σ6 H7 _ I7 q7) (fun v s8 h8=>?_) (fun _ _ z=>z.elim))
    refine wpAny_bind (wpAny_standAt ?_)
    rw [hs2 v]
    refine wpAny_bind (wpAny_pure ?_)
    refine wpAny_bind (wpAny_holding (wpAny_mono h8 (fun itv s9 h9=>?_) (fun _ _ z=>z.elim)))
    obtain ⟨it2,fp2,tn2,J2,H9,e9,I9,T2,st9,f9,W2,⟨m2,w2⟩,turn2⟩:=h9
    subst e9
    have loop:∀ Q:Flow->Shared->Prop,(∀ s10,(∃ m',m'<n/\∃ i ys us k σ' H',Vals ys us/\Inv (cxComp X scope N' cl C s₂ H₂ fp) [(acc,accObj us k)] σ' H' s10/\tn i s10.heap/\(∀ b∈fp,H' b=none)/\W i m' ys σ' H')->Q .next s10)->
     codeAny (model X.prog X.w) X.A (.compLoop (.ListComp elt [⟨tg,iter,ifs,0⟩,⟨tg2,iter2,ifs2,0⟩] scope pos) 1 (.ref it2) (.ref acc) (compEnvC scope cl C X.env)) (fun r s'=>match r with|.ok f=>Q f s'|.error e=>cameBackBy (model X.prog X.w) X.A (compEnvC scope cl C X.env) (notedBy (model X.prog X.w) X.A (compEnvC scope cl C X.env) fun x s'=>R (.error x) s') e s') s9:=by
     intro Q hQ
     refine comp_inner (Y:=cxComp X scope N' cl C s₂ H₂ fp) (ps:=pinsAt fp s5.heap) W2 turn2 T2 hg2 hc2 he hcalm (fun _ _ z=>z) (fun b hb=>?_) ⟨hacc.1,hacc.2.1,.inr hacc.2.2.2,hacc.2.2.1,fun p hp z=>?_⟩ (fun s' σ' H' ys' us' k' I' rv' q'=>?_) rv I9 st9 (fun b hb=>(f9 b hb).1) w2
     ·obtain ⟨_,a1,a2,a3,a4,a5⟩:=f9 b hb
      refine ⟨a1,a2,a3,a4,fun p hp=>?_,fun z=>?_⟩
      ·rcases List.mem_append.mp hp with y|y
       ·exact a5 p (List.mem_append_left _ y)
       ·exact a5 p (List.mem_append_right _ (List.mem_cons_of_mem _ y))
      ·exact a5 (acc,accObj us k) (List.mem_append_right _ List.mem_cons_self) z.symm
     ·have hp':p∈([]:List (Addr×Obj))++pinsAt fp s5.heap:=hp
      rw [List.nil_append] at hp'
      obtain ⟨hb,_⟩:=of_pinsAt hp'
      exact (hfp _ hb).2.2.2 z
     ·obtain ⟨m',hm,w'⟩:=q'
      obtain ⟨I8',t1,t2⟩:=again I'
      exact hQ s' ⟨m',hm,i+1,ys',us',k',σ',H',rv',I8',t1,t2,w'⟩
    refine wpAny_bind (wpAny_runOwn (codeAny_compStart_in (loop _ fun s10 q=>?_) (T2.self _ 0 _ _ _ st9 (loop _ fun s10 q=>?_))))
    ·obtain ⟨m',hm,q⟩:=q
     exact wpAny_pure ⟨rfl,m',hm,q⟩
    ·obtain ⟨m',hm,q⟩:=q
     exact wpAny_pure ⟨rfl,m',hm,q⟩
def tComp2 (wi:TI) (g:TG) (tt:TT) (wi2:TI) (g2:TG) (tt2:TT) (te:TE) (k:Nat) (js:List Nat):TE:=fun σ H Q=>wi σ H fun J H1=>∃ W:Nat->Nat->List V->St->Hp->Prop,(∃ m,W 0 m [] (compSt k js σ) H1)/\
 CTurn2 J g tt wi2 g2 tt2 te (fun ys H2=>ys.length≤sizeLine/\∀ p,H2 p=none->Q (.ref p) (upd H2 p (.lst ys))) W
section
variable {X:Cx} {scope:Scope} {own:List Str} {js:List Nat} {N':List Str} {wi wi2:TI} {g g2:TG} {tt tt2:TT} {te:TE} {elt tg iter tg2 iter2:Expr} {ifs ifs2:List Expr} {pos:Pos}
theorem comp_run2 {pins:List (Addr×Obj)} {σ:St} {H:Hp} {s:Shared} {it:Addr} {fp:List Addr} {tn:Nat->Heap->Prop} {J:It} {cl:List (Str×Addr)} {F:List V->Hp->Prop} {E:Value->Shared->Prop} {RR:Value->Addr->Result->Shared->Prop}
 (S:CompScope X scope own js N') (hcalm:X.calm=true) (hg:∀ cl C s₀ H₀ ex,PG (cxComp X scope N' cl C s₀ H₀ ex) tg g) (hc:∀ cl C s₀ H₀ ex,PIfs (cxComp X scope N' cl C s₀ H₀ ex) ifs tt) (hi2:∀ cl C s₀ H₀ ex,PI (cxComp X scope N' cl C s₀ H₀ ex) tg2 iter2 wi2) (hs2:∀ env x,foldedSetIterable iter2 env x=pure x) (hg2:∀ cl C s₀ H₀ ex,PG (cxComp X scope N' cl C s₀ H₀ ex) tg2 g2) (hc2':∀ cl C s₀ H₀ ex,PIfs (cxComp X scope N' cl C s₀ H₀ ex) ifs2 tt2) (he:∀ cl C s₀ H₀ ex,PE (cxComp X scope N' cl C s₀ H₀ ex) elt te)
 (hc1:∀ x c,cl.lookup x=some c->X.env.cells.lookup x=some c) (hc2:∀ x,(x,NameKind.free)∈scope.names->∃ c,cl.lookup x=some c)
 (I:Inv X pins σ H s) (T:Turn X.prog X.w X.K tg J fp it tn) (st:tn 0 s.heap) (hf:∀ b∈fp,FpOk X pins H b) (W:Nat->Nat->List V->St->Hp->Prop) {m0:Nat} (w0:W 0 m0 [] (compSt own.length js σ) H) (turn:CTurn2 J g tt wi2 g2 tt2 te F W)
 (hF:∀ ys H',F ys H'->ys.length≤sizeLine)
 (fin:∀ acc C H' ys s' m,Inv X pins σ (upd H' acc (.lst ys)) s'->H' acc=none->s'.heap.Ns C m->(upd H' acc (.lst ys)) C=none->C≠X.env.locals->X.s₀.heap.objs.size≤C->(∀ x c,X.env.cells.lookup x=some c->c≠C)->(∀ p∈X.pn++pins,p.1≠C)->F ys H'->RR (.ref acc) C (.ok .next) s') :
 wpAny (model X.prog X.w) X.A (newList []) (fun acc s₃=>wpAny (model X.prog X.w) X.A (newFunctionEnv scope X.env.globals cl [] X.env.qual none .none (some X.env)) (fun cenv s₄=>
  codeAny (model X.prog X.w) X.A (.compStart (.ListComp elt [⟨tg,iter,ifs,0⟩,⟨tg2,iter2,ifs2,0⟩] scope pos) 0 (.ref it) acc { cenv with scope:=relabel scope X.env }) (RR acc cenv.locals) s₄) E s₃) E s:=by
 refine wpAny_newObj_type (wpAny_newFunctionEnv S.nocell (by intro y hy;simp at hy) (fun h₁ hns₁ hsb₁=>?_) S.kind)
 dsimp only at hns₁ hsb₁ ⊢
 generalize hH2:s.heap.push { cls:=.type "list",dict:=none,data:=.seq ([]:List Value).toArray }=H2 at hns₁ hsb₁ ⊢
 have hC:H2.objs.size=s.heap.objs.size+1:=by rw [← hH2,Heap.size_push]
 have hDC:s.heap.objs.size≠H2.objs.size:=by rw [hC];exact Nat.ne_of_lt (Nat.lt_succ_self _)
 have hCle:s.heap.objs.size≤H2.objs.size:=by rw [hC];exact Nat.le_succ _
 have below:∀ b,b<s.heap.objs.size->b≠H2.objs.size/\b≠s.heap.objs.size:=fun b hb=>⟨by rw [hC];exact Nat.ne_of_lt (Nat.lt_succ_of_lt hb),Nat.ne_of_lt hb⟩
 have old:∀ b o,s.heap.get? b=some o->h₁.get? b=some o:=fun b o e=>hsb₁.extBut b o (below b (Heap.lt_size e)).1 (Heap.get?_push_of_some _ (hH2 ▸ Heap.get?_push_of_some _ e))
 have hacc:h₁.get? s.heap.objs.size=some (accObj [] 0):=hsb₁.extBut _ _ hDC (Heap.get?_push_of_some _ (hH2 ▸ Heap.get?_push_size _ rfl))
 generalize hCn:H2.objs.size=C at *
 generalize hAn:s.heap.objs.size=acc at *
 have cellLt:∀ x c,X.env.cells.lookup x=some c->c<acc:=fun x c e=>by
  obtain ⟨v,q⟩:=I.cell x c e
  rw [← hAn];exact q.lt
 have pinLt:∀ p∈X.pn++pins,p.1<acc:=fun p hp=>by rw [← hAn];exact Heap.lt_size (I.pin p hp).1
 have stkLt:∀ b∈frs X.stack,b<acc:=fun b hb=>by
  obtain ⟨_,o,ho,_⟩:=I.stack.mem hb
  rw [← hAn];exact Heap.lt_size ho
 have fpLt:∀ b∈fp,b<acc:=fun b hb=>by
  obtain ⟨o,e,_⟩:=T.obj _ _ st b hb
  rw [← hAn];exact Heap.lt_size e
 have hHC:H C=none:=I.hok.fresh (by rw [hAn];exact hCle)
 have hHA:H acc=none:=I.hok.fresh (by rw [hAn];exact Nat.le_refl _)
 have I1:Inv (cxComp X scope N' cl C s H fp) [] (compSt own.length js σ) H { s with heap:=h₁,toks:=s.toks+([]:List (Str×Value)).length }:=
  Inv.comp S I hc1 hc2 (by rw [hAn];exact hCle) hns₁ old (fun b hb=>⟨hf b hb,by rw [hAn];exact fpLt b hb⟩) hHC fun b o e=>(below b (by rw [← hAn];exact Heap.lt_size e)).1
 have I2:Inv (cxComp X scope N' cl C s H fp) [(acc,accObj [] 0)] (compSt own.length js σ) H { s with heap:=h₁,toks:=s.toks+([]:List (Str×Value)).length }:=I1.pins_of fun p hp=>by
  obtain rfl:p=(acc,accObj [] 0):=by simpa using hp
  exact ⟨hacc,hHA,hDC,fun z=>absurd (stkLt acc z) (Nat.lt_irrefl _),fun v z=>by cases z⟩
 have st1:tn 0 h₁:=T.keep _ _ _ st fun b hb o e=>old b o e
 have loop:∀ s₃:Shared,s₃={ s with heap:=h₁,toks:=s.toks+([]:List (Str×Value)).length }->
  codeAny (model X.prog X.w) X.A (.compLoop (.ListComp elt [⟨tg,iter,ifs,0⟩,⟨tg2,iter2,ifs2,0⟩] scope pos) 0 (.ref it) (.ref acc) (compEnvC scope cl C X.env)) (RR (.ref acc) C) s₃:=by
  rintro s₃ rfl
  refine comp_loop2 W turn T (hg _ _ _ _ _) (hc _ _ _ _ _) (hi2 _ _ _ _ _) (hs2 _) (hg2 _ _ _ _ _) (hc2' _ _ _ _ _) (he _ _ _ _ _) hcalm
   (fun b hb=>⟨(below b (fpLt b hb)).1,fun z=>?_,fun x c e z=>(hf b hb).2.2.2.2.1 x c (hc1 x c e) z,(below b (fpLt b hb)).2⟩)
   ⟨hDC,fun z=>absurd (stkLt acc z) (Nat.lt_irrefl _),fun x c e z=>absurd (cellLt x c (hc1 x c e)) (by rw [z];exact Nat.lt_irrefl _),by rw [hAn];exact Nat.le_refl _⟩ ?_ I2 st1 (fun b hb=>(hf b hb).1) w0
  ·rcases List.mem_cons.mp (I.stkSub b z) with q|q
   ·exact (hf b hb).2.1 q
   ·exact (hf b hb).2.2.1 q
  ·intro s' σ' H' ys us k J' rv q
   obtain ⟨e',n',l',f',d'⟩:=J'.pin (acc,accObj us k) (List.mem_append_right _ List.mem_cons_self)
   have n'':H' acc=none:=n'
   obtain ⟨m,hm,_⟩:=J'.loc
   have oldLt:∀ b o,s.heap.get? b=some o->b<acc:=fun b o e=>by rw [← hAn];exact Heap.lt_size e
   have neA:∀ b o,s.heap.get? b=some o->b≠acc:=fun b o e=>Nat.ne_of_lt (oldLt b o e)
   have un:Un (frs X.stack) fp H (upd H' acc (.lst ys)) s.heap s'.heap:=⟨J'.base.keep,J'.base.slot,fun b o e n hx=>by rw [upd_ne (neA b o e)];exact J'.base.free b o e n hx,J'.base.there,
    fun b xs e=>by
     have z:=J'.base.tups b xs e
     rw [upd_ne (ne_of_none z n'')];exact z,
    fun b o u e=>by
     have z:=J'.base.frzs b o u e
     rw [upd_ne (ne_of_none z n'')];exact z,
    fun b ps e=>by
     obtain ⟨more,z⟩:=J'.base.tbls b ps e
     exact ⟨more,by rw [upd_ne (ne_of_none z n'')];exact z⟩⟩
   have hok:HOk X.prog X.w (upd H' acc (.lst ys)) s'.heap:=fun b u e=>by
    by_cases hb:b=acc
    ·subst hb
     rw [upd_same] at e;cases e
     exact ⟨hF _ _ q,us,k,rv,e'⟩
    ·rw [upd_ne hb] at e
     exact (J'.hok b u e).stay (fun c v _ z=>z) (fun c z=>by rw [upd_ne (ne_of_none z n'')];exact z) fun c xs z=>by rw [upd_ne (ne_of_none z n'')];exact z
   have IX:Inv X pins σ (upd H' acc (.lst ys)) s':=I.call' J'.os un hok J'.bare fun b hb=>⟨(hf b hb).2.2.2.1,(hf b hb).2.1,(hf b hb).2.2.2.2.1,(hf b hb).2.2.2.2.2⟩
   refine fin acc C H' ys s' m IX n'' hm ?_ ?_ ?_ ?_ ?_ q
   ·rw [upd_ne (Ne.symm hDC)];exact J'.free
   ·exact Nat.ne_of_gt (Nat.lt_of_lt_of_le I.lt (by rw [hAn];exact hCle))
   ·exact Nat.le_trans I.sz (by rw [hAn];exact hCle)
   ·exact fun x c e z=>absurd (Nat.lt_of_lt_of_le (cellLt x c e) hCle) (by rw [z];exact Nat.lt_irrefl _)
   ·exact fun p hp z=>absurd (Nat.lt_of_lt_of_le (pinLt p hp) hCle) (by rw [z];exact Nat.lt_irrefl _)
 exact codeAny_compStart_list (loop _ rfl) (T.self _ 0 _ _ _ st1 (loop _ rfl))
theorem pe_comp2 (S:CompScope X scope own js N') (hcalm:X.calm=true) (hi:PI X tg iter wi) (hg:∀ cl C s₀ H₀ ex,PG (cxComp X scope N' cl C s₀ H₀ ex) tg g) (hc:∀ cl C s₀ H₀ ex,PIfs (cxComp X scope N' cl C s₀ H₀ ex) ifs tt)
 (hi2:∀ cl C s₀ H₀ ex,PI (cxComp X scope N' cl C s₀ H₀ ex) tg2 iter2 wi2) (hs2:∀ env x,foldedSetIterable iter2 env x=pure x) (hg2:∀ cl C s₀ H₀ ex,PG (cxComp X scope N' cl C s₀ H₀ ex) tg2 g2) (hc2':∀ cl C s₀ H₀ ex,PIfs (cxComp X scope N' cl C s₀ H₀ ex) ifs2 tt2) (he:∀ cl C s₀ H₀ ex,PE (cxComp X scope N' cl C s₀ H₀ ex) elt te) (hs:∀ x,foldedSetIterable iter X.env x=pure x:=by intro _;rfl):PE X (.ListComp elt [⟨tg,iter,ifs,0⟩,⟨tg2,iter2,ifs2,0⟩] scope pos) (tComp2 wi g tt wi2 g2 tt2 te own.length js):=by
 intro pins s σ H Q I h
 obtain ⟨cl,hcl,hc1,hc2⟩:=closure_ok (env:=X.env) scope fun y hy hk=>I.ok.has y.1 (S.free y hy hk)
 rw [eval_ListComp]
 refine wpAny_comprehension_free (use:=none) rfl hs hcl S.kind S.names (thn (hi pins s σ H _ I h) fun v s1 h1=>thn h1 fun itv s2 h2=>?_)
 obtain ⟨it,fp,tn,J,H2,e,I2,T,st2,f2,W,⟨m0,w0⟩,turn⟩:=h2
 subst e
 refine comp_run2 (RR:=fun acc C=>compPost (model X.prog X.w) X.A X.xe none (EP X pins σ Q) acc C) S hcalm hg hc hi2 hs2 hg2 hc2' he hc1 hc2 I2 T st2 f2 W w0 turn (fun ys H' q=>q.1) ?_
 intro acc C H' ys s' m IX na hm hCn hL hz hcn hpn q
 refine ⟨m,hm,fun h' hs'=>⟨.ref acc,_,?_,rfl,q.2 acc na⟩⟩
 exact IX.turned (t':=s'.toks) (it:=C) (fun b o hb e=>(hs'.2 b hb).trans e) hCn hL (.inr hz) hcn hpn
end
section
variable {X:Cx}
end
section
variable {prog:Program} {w:World} {A:Around} {R:Result->Shared->Prop} {I:Addr} {fp wr:List Addr} {n:Nat} {P:Nat->Value->Prop} {St:Nat->Heap->Prop}
end
section
variable {prog:Program} {w:World} {A:Around} {E:Value->Shared->Prop} {s:Shared} {l:Addr} {xs:Array (Int×Tok)}
end
section
variable {X:Cx}
end
section
variable {X:Cx} {scope:Scope} {own:List Str} {js:List Nat} {N':List Str} {wi:TI} {g:TG} {tt:TT} {te:TE} {tf:St->TE} {elt tg iter:Expr} {ifs:List Expr} {pos:Pos}
end
end L2
namespace L2
open PySem PySem.Spec PyProof.Rows PySem.SeqAt
section
variable {prog:Program} {w:World} {A:Around} {E:Value->Shared->Prop} {s:Shared} {l:Addr} {x y z:Value}
end
section
variable {X:Cx} {pos:Pos}
end
section
variable {X:Cx}
end
section
variable {X:Cx} {CX:CXT} {k:Nat} {f C:Addr} {fd:FuncData} {ps ks:List Str} {sp:Sp} {E:XK} {m:Str} {pos apos:Pos} {o:Expr} {kws:List Keyword} {ta:TE} {tk:TA} {g:List Value->List Value->List Value} {gV:List V->List V->List V}
def tMethK (C:Addr) (m:Str) (sp:Sp) (gV:List V->List V->List V) (E:XK) (ta:TE) (tk:TA):TE:=fun σ H Q=>ta σ H fun x H1=>∃ a dx fs,x=.ref a/\H1 a=some (.ins C dx fs)/\fs.lookup m=none/\tk σ H1 fun zs H2=>sp (gV [.ref a] zs) H2 Q E
theorem pe_methK0 {pl:Sem Bool} (he:PE X o ta) (c:Cls X.K C) (hm:Meth X.K C m f) (F:FnOk X.prog X.w X.K X.mg X.base CX k f fd ps sp) (hr:Room k X.A) (hb:KBinds X.K fd ps ks g gV) (hx:Passes CX X E)
 (hkw:PK X kws tk) (hall:(backToKw pos (keywordEach kws X.env)).all (·.1.isSome)=true:=by rfl) (hks:(backToKw pos (keywordEach kws X.env)).filterMap (·.1)=ks:=by rfl)
 (hpl:((backTo pos (starEach [] X.env)).any (·.1) || (backToKw pos (keywordEach kws X.env)).any (·.1.isNone))=false:=by rfl)
 (ht:eval (.Call (.Attribute o m apos) [] kws pos) X.env=(do
  let ov ← eval o X.env
  standAt apos.atName
  let (f,first) ← holding [ov] (getMethod ov m pl)
  callWith pos f first (backTo pos (starEach [] X.env)) (backToKw pos (keywordEach kws X.env))):=by rfl) :
 PE X (.Call (.Attribute o m apos) [] kws pos) (tMethK C m sp gV E ta tk):=by
 intro pins s σ H Q I h
 refine PySem.W.methodCall_KW (pl:=pl) (thn (he pins s σ H _ I h) fun u s1 ⟨x,H1,I1,rx,a,dx,fs,ex,ea,l,q⟩=>?_) ht
 subst ex
 obtain rfl:u=Value.ref a:=rx
 refine getmeth_ok I1 ea c hm l ?_
 refine PySem.W.callWith_KW0 (first:=[.ref a]) (h₀:=X.base) I1.ok.mod.kin hm.kp hall ?_ hpl
 refine thn (hkw pos pins s1 σ H1 _ I1 q) fun ws s2 ⟨zs,H2,I2,rz,q2⟩=>⟨I2.kIn,?_⟩
 rw [hks]
 exact run_fnk (us:=[.ref a]) (vs:=[.ref a]) F hr hb hx I2 (.cons rfl .nil) rz q2
end
end L2
namespace Cm
open PySem L2
def top (i:Nat):Stmt:=PySem.Challenge.pw_lanescribe_k17_whole_readers_stop_no_wri.main.body.getD i (.Pass ⟨0,0,0,0⟩)
def drK (c:Addr) (a r s:Int):List (Key×V):=[(.inr "cells",.ref c),(.inr "at",.int a),(.inr "rest",.int r),(.inr "seed",.int s)]
theorem pat {c:Addr} {a r s x:Int}:putK (drK c a r s) (.inr "at") (.int x)=drK c x r s:=by rfl
theorem prest {c:Addr} {a r s x:Int}:putK (drK c a r s) (.inr "rest") (.int x)=drK c a x s:=by rfl
theorem pseed {c:Addr} {a r s x:Int}:putK (drK c a r s) (.inr "seed") (.int x)=drK c a r x:=by rfl
theorem gcells {H:Hp} {p c:Addr} {a r s:Int} (h:H p=some (.dK (drK c a r s))):DGet H p (.str "cells") (some (.ref c)):=DGet.k (k:=Sum.inr "cells") h
theorem gat {H:Hp} {p c:Addr} {a r s:Int} (h:H p=some (.dK (drK c a r s))):DGet H p (.str "at") (some (.int a)):=DGet.k (k:=Sum.inr "at") h
theorem grest {H:Hp} {p c:Addr} {a r s:Int} (h:H p=some (.dK (drK c a r s))):DGet H p (.str "rest") (some (.int r)):=DGet.k (k:=Sum.inr "rest") h
theorem gseed {H:Hp} {p c:Addr} {a r s:Int} (h:H p=some (.dK (drK c a r s))):DGet H p (.str "seed") (some (.int s)):=DGet.k (k:=Sum.inr "seed") h
abbrev Big:Int:=2305843009213693951
structure Dr (H:Hp) (p c:Addr):Prop where
 ex:∃ (ns:List Int) (a r s:Int),H p=some (.dK (drK c a r s))/\H c=some (.lst (ns.map V.int))/\ns.length≤63/\0≤a/\a≤ns.length/\0≤r/\0≤s/\s<Big
theorem Dr.mono {H H':Hp} {p c:Addr} (d:Dr H p c) (h:Same H H'):Dr H' p c:=by
 obtain ⟨ns,a,r,s,h1,h2,k⟩:=d.ex
 exact ⟨ns,a,r,s,h _ _ h1,h _ _ h2,k⟩
theorem Dr.ne {H:Hp} {p c q:Addr} {o:HO} (d:Dr H p c) (h:H q=some o) (hd:∀ kvs,o≠.dK kvs):q≠p:=by
 obtain ⟨ns,a,r,s,h1,_⟩:=d.ex
 exact ne_of h h1 (hd _)
theorem Dr.put {H:Hp} {p c q:Addr} {o:HO} (d:Dr H p c) (h1:q≠p) (h2:q≠c):Dr (upd H q o) p c:=by
 obtain ⟨ns,a,r,s,e1,e2,k⟩:=d.ex
 exact ⟨ns,a,r,s,by rw [upd_ne h1.symm];exact e1,by rw [upd_ne h2.symm];exact e2,k⟩
theorem Dr.cell {H:Hp} {p c:Addr} (d:Dr H p c):∃ xs,H c=some (.lst xs):=by
 obtain ⟨ns,a,r,s,e1,e2,k⟩:=d.ex
 exact ⟨_,e2⟩
theorem Dr.neN {H:Hp} {p c q:Addr} (d:Dr H p c) (h:H q=none):p≠q:=by
 obtain ⟨ns,a,r,s,h1,_⟩:=d.ex
 exact ne_of_none h1 h
structure Txt (K:PySem.W.Frag) (mg:Str->Option Value):Prop where
 len:mg "len" = none
 range:mg "range" = none
 list:mg "list" = none
 tuple:mg "tuple" = none
 str:mg "str" = none
 bool:mg "bool" = none
 int:mg "int" = none
 min:mg "min" = none
 repr:mg "repr" = none
 all:mg "all" = none
 any:mg "any" = none
 isinstance:mg "isinstance" = none
section
variable {P:Program} {w:World} {K:PySem.W.Frag} {mg:Str->Option Value} {base:Heap}
def spBegin (K:PySem.W.Frag):Sp:=fun vs H Q _=>∃ (a:Addr) (ns:List Int),vs=[.ref a]/\SqL K H a (ns.map V.int)/\ns.length≤63/\∀ (p c:Addr) (H':Hp),Dr H' p c->Same H H'->H p=none->Q (.ref p) H'
theorem scB:FnScope ["_law_script","_law_seed","_law_cell"] ["_law_script"] (defScope (top 39)):=⟨rfl,rfl,rfl,by decide +kernel,rfl,by decide +kernel,by decide +kernel⟩
theorem ok_begin {f:Addr} {fd:FuncData} (F:Fun K "_law_begin" "_law_begin" (top 39) f fd) (T:Txt K mg):FnOk P w K mg base CX0 1 f fd ["_law_script"] (spBegin K):=by
 refine F.ok scB (fun vs H Q E h=>?_) (fun cdv A outer s H vs Q E hr h=>?_)
 ·obtain ⟨a,ns,rfl,_⟩:=h
  rfl
 ·obtain ⟨a,ns,rfl,hS,hlen,k⟩:=h
  refine ⟨_,(pss_cons (ps_set (i:=1) scB.nd rfl (Or.inl rfl) pe_int)
   (pss_cons (ps_for PassesOwn.never rfl (pi_list (pe_slice sl_list (pv 0) po_none (po_some pe_int))) (pg_name (i:=2) scB.nd rfl (Or.inl rfl))
    (pss_one (ps_set (i:=1) scB.nd rfl (Or.inl rfl) (pe_op op_mod (pe_op op_add (pe_op op_add (pe_op op_mul (pv 1) pe_int) (pe_op op_mul (pv 2) pe_int)) pe_int) pe_int))))
   (pss_one (ps_ret (pe_disp (pps_cons pe_str (pe_callTy call_list_of (by rfl) T.list bt_list (pa_cons (pe_slice sl_list (pv 0) po_none (po_some pe_int)) pa_nil)) (pps_cons pe_str pe_int (pps_cons pe_str pe_int (pps_cons pe_str (pv 1) pps_nil)))) rfl rfl (List.cons_ne_nil _ _) (by show 4≤15;decide)))))),?_⟩
  have hcut:cutV (ns.map V.int) none (some 63)=ns.map V.int:=by
   show ((ns.map V.int).drop (HT.sIx _ 0 none)).take (HT.sIx _ _ (some ((63:Nat):Int))-HT.sIx _ 0 none)=_
   rw [HT.sIx_none,HT.sIx_nat,List.drop_zero,Nat.sub_zero,List.take_of_length_le]
   rw [List.length_map];omega
  refine ⟨_,rfl,_,rfl,a,_,rfl,hS,fun q hq=>⟨q,rfl,⟨_,SqL.of upd_same⟩,?_⟩⟩
  rw [hcut]
  have hS':∀ o,SqL K (upd H q o) a (ns.map V.int):=fun o=>(show Same H (upd H q o) from fun b u e=>by rw [upd_ne (ne_of_none e hq)];exact e).seq hS
  refine for_list (K:=K) (a:=q) (xs:=ns.map V.int) (fun i σ H2=>∃ (z:Int) (v:Option V),σ=[some (.ref a),some (.int z),v]/\0≤z/\z<Big/\H2=upd H q (.lst (ns.map V.int)))
   ⟨20011,none,rfl,by decide,by decide,rfl⟩ (fun i σ H2 _ ⟨_,_,_,_,_,e⟩=>by rw [e];exact SqL.of upd_same) ?_ ?_
  ·rintro i y σ H2 hi ⟨z,v,rfl,h0,h1,rfl⟩
   obtain ⟨n,-,rfl⟩:=List.mem_map.mp (List.mem_of_getElem? hi)
   refine ⟨_,rfl,_,_,rfl,rfl,.inl ⟨by omega,by simp only [Big] at h1;omega⟩,_,rfl,_,_,rfl,rfl,.inr ⟨by decide,by decide⟩,_,_,rfl,rfl,_,_,rfl,rfl,_,_,rfl,rfl,(by show (0:Int)<2305843009213693951;decide),?_⟩
   exact ⟨_,_,rfl,Int.emod_nonneg _ (by decide),Int.emod_lt_of_pos _ (by decide),rfl⟩
  ·rintro σ H2 ⟨z,v,rfl,h0,h1,rfl⟩
   intro p hp
   have s1:Same H (upd (upd H q (.lst (ns.map V.int))) p (.dK [])):=(Same.new hq).trans (Same.new hp)
   refine ⟨_,rfl,_,rfl,a,_,rfl,s1.seq hS,fun q2 hq2=>⟨q2,_,rfl,.inl (SqL.of upd_same),fun l hl=>⟨_,rfl,?_,drK l 0 0 z,rfl,by show 4≤15;decide,?_⟩⟩⟩
   ·exact (Same.new hl) _ _ ((Same.new hq2) _ _ upd_same)
   ·rw [hcut]
    have hpl:(upd (upd (upd (upd H q (.lst (ns.map V.int))) p (.dK [])) q2 (.lst (ns.map V.int))) l (.lst (ns.map V.int))) p=some (.dK []):=(Same.new (by rw [hcut] at hl;exact hl)) _ _ ((Same.new hq2) _ _ upd_same)
    have hlp:l≠p:=ne_of upd_same hpl (by intro z;cases z)
    refine k p l _ ⟨ns,0,0,z,upd_same,by rw [upd_ne hlp];exact upd_same,hlen,by decide,by omega,by decide,h0,h1⟩ ?_ ((Same.new hq).free hp)
    intro b u e
    have e1:=((Same.new (q:=l) (o:=.lst (ns.map V.int)) (by rw [hcut] at hl;exact hl)) _ _ ((Same.new hq2) _ _ (s1 b u e)))
    rw [upd_ne (ne_of_none ((Same.new hq) b u e) hp)]
    exact e1
def spPick:Sp:=fun vs H Q _=>∃ (p c:Addr) (m:Int),vs=[.ref p,.int m]/\Dr H p c/\0<m/\m<340282366920938463463374607431768211456/\∀ (r:Int) (H':Hp),0≤r->r<m->Dr H' p c->But p H H'->Q (.int r) H'
theorem scP:FnScope ["_law_d","_law_many","_law_cell","_law_digit","_law_one"] ["_law_d","_law_many"] (defScope (top 40)):=⟨rfl,rfl,rfl,by decide +kernel,rfl,by decide +kernel,by decide +kernel⟩
theorem ok_pick {f:Addr} {fd:FuncData} (F:Fun K "_law_pick" "_law_pick" (top 40) f fd) (T:Txt K mg):FnOk P w K mg base CX0 1 f fd ["_law_d","_law_many"] spPick:=by
 refine F.ok scP (fun vs H Q E h=>?_) (fun cdv A outer s H vs Q E hr h=>?_)
 ·obtain ⟨p,c,m,rfl,_⟩:=h
  rfl
 ·obtain ⟨p,c,m,rfl,D,m0,m1,k⟩:=h
  have hu:=hu_of hr
  refine ⟨_,(pss_cons
 (ps_if (PW.pt (pw_and (pt_cmpR op_eq (pe_dget hu (pv 0) pe_str (fun _ _=>rfl)) pe_int (nomark _)) (pw_and1 (pt_cmpR op_lt (pe_dget hu (pv 0) pe_str (fun _ _=>rfl)) (pe_callB call_len_seq (by rfl) T.len bt_len (pa_cons (pe_dget hu (pv 0) pe_str (fun _ _=>rfl)) pa_nil)) (nomark _))))) (pss_cons
 (ps_set (i:=2) scP.nd rfl (Or.inl rfl) (pe_ix ix_list (pe_dget hu (pv 0) pe_str (fun _ _=>rfl)) (pe_dget hu (pv 0) pe_str (fun _ _=>rfl)) (fun _ _=>rfl)))
 (pss_cons
 (ps_dput hu (pv 0) pe_str (pe_op op_add (pe_dget hu (pv 0) pe_str (fun _ _=>rfl)) pe_int) rfl)
 (pss_one
 (ps_if (pt_cmpR op_ge (pv 2) (pe_op op_pow pe_int pe_int) (nomark _)) (pss_one
 (ps_dput hu (pv 0) pe_str (pv 2) rfl)) (pss_one
 (ps_dput hu (pv 0) pe_str (pe_op op_mod (pe_op op_add (pe_op op_add (pe_op op_mul (pe_dget hu (pv 0) pe_str (fun _ _=>rfl)) pe_int) (pe_op op_mul (pv 2) pe_int)) pe_int) pe_int) rfl)))))) pss_nil)
 (pss_cons
 (ps_if (pt_cmpR op_gt (pe_dget hu (pv 0) pe_str (fun _ _=>rfl)) pe_int (nomark _)) (pss_cons
 (ps_set (i:=3) scP.nd rfl (Or.inl rfl) (pe_op op_mod (pe_dget hu (pv 0) pe_str (fun _ _=>rfl)) (pv 1)))
 (pss_cons
 (ps_dput hu (pv 0) pe_str (pe_op op_fdivW (pe_dget hu (pv 0) pe_str (fun _ _=>rfl)) (pv 1)) rfl)
 (pss_one
 (ps_ret (pv 3))))) pss_nil)
 (pss_cons
 (ps_set (i:=4) scP.nd rfl (Or.inl rfl) (pe_op op_mod (pe_op op_mul (pe_dget hu (pv 0) pe_str (fun _ _=>rfl)) (pe_dget hu (pv 0) pe_str (fun _ _=>rfl))) pe_int))
 (pss_cons
 (ps_dput hu (pv 0) pe_str (pe_op op_mod (pe_op op_add (pe_op op_add (pe_op op_mul (pv 4) pe_int) (pe_op op_mul (pe_dget hu (pv 0) pe_str (fun _ _=>rfl)) pe_int)) pe_int) pe_int) rfl)
 (pss_one
 (ps_ret (pe_op op_mod (pe_op op_fdiv (pe_dget hu (pv 0) pe_str (fun _ _=>rfl)) pe_int) (pv 1)))))))),?_⟩
  obtain ⟨ns,a,r,sd,h1,h2,hl,a0,a1,r0,s0,s1⟩:=D.ex
  have npc:c≠p:=ne_of h2 h1 (by intro z;cases z)
  have small:∀ {x y z:Int},(drK c x y z).length<sizeLine:=fun {x y z}=>small1000 (by show 4≤1000;decide)
  refine seq_by (fun σ' H'=>∃ (a' r' sd':Int) (v:Option V),σ'=[some (.ref p),some (.int m),v,none,none]/\H' p=some (.dK (drK c a' r' sd'))/\But p H H'/\0≤a'/\a'≤ns.length/\0≤r'/\0≤sd'/\sd'<Big) ?_ ?_
  ·rintro σ' H1 ⟨a',r',sd',v,rfl,e1,bt,b0,b1,c0,d0,d1⟩
   have hc1:∀ o,(upd H1 p o) c=some (.lst (ns.map V.int)):=fun o=>by rw [upd_ne npc];exact bt c _ h2 npc
   refine ⟨_,rfl,p,_,rfl,grest e1,_,_,rfl,rfl,_,rfl,?_⟩
   refine ite2 (fun hpos=>?_) (fun _=>?_)
   ·refine ⟨_,rfl,p,_,rfl,grest e1,_,rfl,_,_,rfl,rfl,m0,?_⟩
    refine ⟨_,rfl,p,_,rfl,grest e1,_,rfl,_,_,rfl,rfl,⟨m0,m1⟩,_,rfl,p,_,rfl,DPut.k (k:=Sum.inr "rest") e1 small,_,rfl,?_⟩
    rw [prest]
    exact k _ _ (Int.emod_nonneg _ (by omega)) (Int.emod_lt_of_pos _ m0) ⟨ns,a',r' / m,sd',upd_same,hc1 _,hl,b0,b1,Int.ediv_nonneg c0 (by omega),d0,d1⟩ (bt.trans But.upd)
   ·have sq:CMul sd' sd':=.inl ⟨by omega,by simp only [Big] at d1;omega⟩
    refine ⟨_,rfl,p,_,rfl,gseed e1,_,rfl,p,_,rfl,gseed e1,_,_,rfl,rfl,sq,_,_,rfl,rfl,(by show (0:Int)<2305843009213693951;decide),?_⟩
    have u0:=Int.emod_nonneg (sd'*sd') (show (2305843009213693951:Int)≠0 by decide)
    have u1:=Int.emod_lt_of_pos (sd'*sd') (show (0:Int)<2305843009213693951 by decide)
    refine ⟨_,rfl,_,_,rfl,rfl,.inr ⟨by decide,by decide⟩,_,rfl,p,_,rfl,gseed e1,_,_,rfl,rfl,.inr ⟨by decide,by decide⟩,_,_,rfl,rfl,_,_,rfl,rfl,_,_,rfl,rfl,(by show (0:Int)<2305843009213693951;decide),_,rfl,p,_,rfl,DPut.k (k:=Sum.inr "seed") e1 small,?_⟩
    rw [pseed]
    generalize hsd:(sd'*sd' % 2305843009213693951*7+sd'*40503+12345) % 2305843009213693951=sn
    have v0:0≤sn:=hsd ▸ Int.emod_nonneg _ (by decide)
    have v1:sn<Big:=hsd ▸ Int.emod_lt_of_pos _ (by decide)
    refine ⟨_,rfl,p,_,rfl,gseed upd_same,_,_,rfl,rfl,⟨by decide,by decide⟩,_,rfl,_,_,rfl,rfl,m0,?_⟩
    exact k _ _ (Int.emod_nonneg _ (by omega)) (Int.emod_lt_of_pos _ m0) ⟨ns,a',r',sn,upd_same,hc1 _,hl,b0,b1,c0,v0,v1⟩ (bt.trans But.upd)
  ·intro N hN
   refine ⟨_,rfl,p,_,rfl,grest h1,rfl,_,rfl,?_⟩
   refine ite2 (fun hz=>?_) (fun _=>?_)
   ·refine ⟨_,rfl,p,_,rfl,gat h1,_,rfl,p,_,rfl,gcells h1,c,_,rfl,.inl (SqL.of h2),_,_,rfl,rfl,_,rfl,?_⟩
    rw [List.length_map]
    refine ite2 (fun hlt=>?_) (fun _=>?_)
    ·have hlt:a<ns.length:=of_decide_eq_true hlt
     obtain ⟨z,hz'⟩:∃ z,ns[a.toNat]?=some z:=⟨_,List.getElem?_eq_getElem (by omega)⟩
     have hat:atI (ns.map V.int) a=some (.int z):=by
      have e:(a:Int)=((a.toNat:Nat):Int):=by omega
      rw [e]
      refine atI_nat ?_
      rw [List.getElem?_map,hz'];rfl
     refine ⟨_,rfl,p,_,rfl,gcells h1,_,rfl,p,_,rfl,gat h1,c,_,_,_,rfl,rfl,SqL.of h2,hat,?_⟩
     refine ⟨_,rfl,p,_,rfl,gat h1,_,_,rfl,rfl,_,rfl,p,_,rfl,DPut.k (k:=Sum.inr "at") h1 small,?_⟩
     rw [pat]
     refine ⟨_,rfl,_,_,rfl,rfl,⟨by decide,by decide,by decide⟩,_,_,rfl,rfl,_,rfl,?_⟩
     refine ite2 (fun hge=>?_) (fun _=>?_)
     ·refine ⟨_,rfl,_,rfl,p,_,rfl,DPut.k (k:=Sum.inr "rest") upd_same small,?_⟩
      rw [prest]
      have hge:(10:Int) ^ 18≤z:=of_decide_eq_true hge
      exact hN _ _ ⟨a+1,z,sd,_,rfl,upd_same,But.upd.trans But.upd,by omega,by omega,by omega,s0,s1⟩
     ·refine ⟨_,rfl,p,_,rfl,gseed upd_same,_,_,rfl,rfl,.inr ⟨by decide,by decide⟩,_,rfl,_,_,rfl,rfl,.inr ⟨by decide,by decide⟩,_,_,rfl,rfl,_,_,rfl,rfl,_,_,rfl,rfl,(by show (0:Int)<2305843009213693951;decide),_,rfl,p,_,rfl,DPut.k (k:=Sum.inr "seed") upd_same small,?_⟩
      rw [pseed]
      exact hN _ _ ⟨a+1,r,_,_,rfl,upd_same,But.upd.trans But.upd,by omega,by omega,r0,Int.emod_nonneg _ (by decide),Int.emod_lt_of_pos _ (by decide)⟩
    ·exact hN _ _ ⟨a,r,sd,_,rfl,h1,But.refl,a0,a1,r0,s0,s1⟩
   ·exact hN _ _ ⟨a,r,sd,_,rfl,h1,But.refl,a0,a1,r0,s0,s1⟩
end
section
variable {P:Program} {w:World} {K:PySem.W.Frag} {mg:Str->Option Value} {base:Heap}
theorem Dr.dk {H:Hp} {p c:Addr} (d:Dr H p c):∃ kvs,H p=some (.dK kvs):=by
 obtain ⟨ns,a,r,s,h1,_⟩:=d.ex
 exact ⟨_,h1⟩
theorem Dr.seq {H H':Hp} {p c a:Addr} {xs:List V} (d:Dr H p c) (e:But p H H') (h:SqL K H a xs):SqL K H' a xs:=let ⟨_,hp⟩:=d.dk;e.seq hp h
theorem Dr.new {H:Hp} {p c q:Addr} {o:HO} (d:Dr H p c) (h:H q=none):Dr (upd H q o) p c:=d.mono (Same.new h)
def spOf (K:PySem.W.Frag):Sp:=fun vs H Q _=>∃ (p c q:Addr) (xs:List V),vs=[.ref p,.ref q]/\Dr H p c/\SqL K H q xs/\xs≠[]/\xs.length≤1000/\∀ (x:V) (H':Hp),x∈xs->Dr H' p c->But p H H'->Q x H'
theorem scO:FnScope ["_law_d","_law_things"] ["_law_d","_law_things"] (defScope (top 41)):=⟨rfl,rfl,rfl,by decide +kernel,rfl,by decide +kernel,by decide +kernel⟩
theorem ok_of {f fP:Addr} {fd fdP:FuncData} (F:Fun K "_law_of" "_law_of" (top 41) f fd) (T:Txt K mg) (DP:Def K mg "_law_pick" (top 40) ["_law_d","_law_many"] fP fdP):FnOk P w K mg base CX0 2 f fd ["_law_d","_law_things"] (spOf K):=by
 have GP:FnOk P w K mg base CX0 1 fP fdP ["_law_d","_law_many"] spPick:=ok_pick DP.F T
 refine F.ok scO (fun vs H Q E h=>?_) (fun cdv A outer s H vs Q E hr h=>?_)
 ·obtain ⟨p,c,q,xs,rfl,_⟩:=h
  rfl
 ·obtain ⟨p,c,q,xs,rfl,D,hq,hne,hl,k⟩:=h
  refine ⟨_,(pss_one (ps_ret (pe_ix ix_list (pv 1) (pe_call GP hr rfl DP.mg DP.F.kp DP.b .nil pass0 (pa_cons (pv 0) (pa_cons (pe_callB call_len_seq (by rfl) T.len bt_len (pa_cons (pv 1) pa_nil)) pa_nil))) (fun _ _=>rfl)))),?_⟩
  have hpos:0<xs.length:=List.length_pos_iff.mpr hne
  refine ⟨_,rfl,_,rfl,_,rfl,q,xs,rfl,(.inl hq),p,c,_,rfl,D,by omega,by omega,fun r H' r0 r1 D' bt=>?_⟩
  obtain ⟨j,rfl⟩:=Int.eq_ofNat_of_zero_le r0
  have hx:j<xs.length:=by omega
  exact ⟨q,xs,_,xs[j],rfl,rfl,D.seq bt hq,atI_nat (List.getElem?_eq_getElem hx),k _ _ (List.getElem_mem hx) D' bt⟩
end
def Lc (x:Str):Prop:=∀ c∈x.cps.toList,97≤c/\c≤122
structure Nm (x:Str):Prop where
 lo:1≤x.length
 hi:x.length≤8
 lc:Lc x
theorem Lc.app {x y:Str} (a:Lc x) (b:Lc y):Lc (x++y):=fun c hc=>by
 rw [Str.cps_append,Array.toList_append,List.mem_append] at hc
 exact hc.elim (a c) (b c)
theorem join_cps (sep:Str) (hs:sep.cps.toList=[]):∀ ys:List Str,(Str.join sep ys).cps.toList=(ys.map (·.cps.toList)).flatten
 |[]=>rfl
 |[x]=>by show x.cps.toList=_;simp
 | x::y::r=>by
   show (x++sep++Str.join sep (y::r)).cps.toList=_
   rw [Str.cps_append,Array.toList_append,Str.cps_append,Array.toList_append,hs,List.append_nil,join_cps sep hs (y::r),List.map_cons (l:=y::r),List.flatten_cons]
theorem txt_join (sep:Str) (ys:List Str):PySem.Txt.join sep ys=Str.join sep ys:=by
 show PySem.Builtin.Str.glued sep ys=_
 rw [PySem.StrLaws.glued_eq_join]
theorem len_cps (x:Str):x.length=x.cps.toList.length:=by simp [Str.length]
section
variable {P:Program} {w:World} {K:PySem.W.Frag} {mg:Str->Option Value} {base:Heap}
def spWord:Sp:=fun vs H Q _=>∃ (p dc:Addr),vs=[.ref p]/\Dr H p dc/\∀ (x:Str) (H':Hp),Nm x->Dr H' p dc->But p H H'->Q (.str x) H'
theorem scW:FnScope ["_law_d","_law_letters","_law_first","_law_size","_law_some"] ["_law_d"] (defScope (top 42)):=⟨rfl,rfl,rfl,by decide +kernel,rfl,by decide +kernel,by decide +kernel⟩
theorem letters_at {i:Int} {c:Nat} (h:atI ("abcdefghijklmnopqrstuvwxyz" : Str).cps.toList i=some c):97≤c/\c≤122:=by
 have:c∈("abcdefghijklmnopqrstuvwxyz" : Str).cps.toList:=by
  unfold atI at h
  obtain ⟨j,_,e⟩:=Option.bind_eq_some_iff.mp h
  exact List.mem_of_getElem? e
 have all:∀ c∈("abcdefghijklmnopqrstuvwxyz" : Str).cps.toList,97≤c/\c≤122:=by decide +kernel
 exact all c this
theorem ok_word {f fP fO:Addr} {fd fdP fdO:FuncData} (F:Fun K "_law_word" "_law_word" (top 42) f fd) (T:Txt K mg) (DP:Def K mg "_law_pick" (top 40) ["_law_d","_law_many"] fP fdP) (DO:Def K mg "_law_of" (top 41) ["_law_d","_law_things"] fO fdO) :
 FnOk P w K mg base CX0 3 f fd ["_law_d"] spWord:=by
 have GP:FnOk P w K mg base CX0 1 fP fdP ["_law_d","_law_many"] spPick:=ok_pick DP.F T
 have GO:FnOk P w K mg base CX0 2 fO fdO ["_law_d","_law_things"] (spOf K):=ok_of DO.F T DP
 refine F.ok scW (fun vs H Q E h=>?_) (fun cdv A outer s H vs Q E hr h=>?_)
 ·obtain ⟨p,dc,rfl,_⟩:=h
  rfl
 ·obtain ⟨p,dc,rfl,D,k⟩:=h
  have hr1:Room 1 _:=hr.mono (by decide)
  refine ⟨_,(pss_cons
 (ps_set (i:=1) scW.nd rfl (Or.inr rfl) pe_str)
 (pss_cons
 (ps_set (i:=2) scW.nd rfl (Or.inl rfl) (pe_call GO hr rfl DO.mg DO.F.kp DO.b .nil pass0 (pa_cons (pv 0) (pa_cons (pe_lst (pa_cons pe_str (pa_cons pe_str (pa_cons pe_str (pa_cons pe_str (pa_cons pe_str pa_nil)))))) pa_nil))))
 (pss_cons
 (ps_set (i:=3) scW.nd rfl (Or.inl rfl) (pe_op op_add pe_int (pe_call GP hr1 rfl DP.mg DP.F.kp DP.b .nil pass0 (pa_cons (pv 0) (pa_cons (pe_op op_sub pe_int (pe_callB call_len_str (by rfl) T.len bt_len (pa_cons (pv 2) pa_nil))) pa_nil)))))
 (pss_cons
 (ps_set (i:=4) scW.nd rfl (Or.inl rfl) (pe_bm PySem.F.plainAttrs_str PySem.F.slot_str_join PySem.F.type_str_join mt_join pe_str (pa_cons (pe_comp (own:=["_law_k"]) (js:=[1,0]) (N':=["_law_k","_law_letters","_law_d"]) (CompScope.of (osc:=defScope (top 42)) (N:=["_law_d","_law_letters","_law_first","_law_size","_law_some"]) rfl rfl ⟨rfl,by decide +kernel,by decide +kernel,by decide +kernel,rfl,by decide +kernel⟩) rfl (pi_range1 rfl T.range (pa_cons (pv 3) pa_nil)) (fun _ _ _ _ _=>(pg_name (i:=0) (show List.Nodup (["_law_k","_law_letters","_law_d"]:List Str) by decide +kernel) rfl (Or.inl rfl) (Or.inr rfl))) (fun _ _ _ _ _=>pifs_nil) (fun _ _ _ _ _=>(pe_ix (r:=rIxS) ix_str (pv 1) (pe_call GP hr1 rfl DP.mg DP.F.kp DP.b .nil pass0 (pa_cons (pv 2) (pa_cons pe_int pa_nil))) (fun _ _=>rfl)))) pa_nil)))
 (pss_one
 (ps_ret (pe_ix ix_list (pe_lst (pa_cons (pe_op op_add_str (pv 2) (pv 4)) (pa_cons (pe_op op_add_str (pv 4) (pv 2)) pa_nil))) (pe_call GP hr1 rfl DP.mg DP.F.kp DP.b .nil pass0 (pa_cons (pv 0) (pa_cons pe_int pa_nil))) (fun _ _=>rfl)))))))),?_⟩
  refine ⟨_,rfl,(show 5≤sizeLine by decide),fun q hq=>?_⟩
  refine ⟨p,dc,q,_,rfl,D.new hq,SqL.of upd_same,by simp,by simp,fun x H1 hx D1 b1=>?_⟩
  obtain ⟨z,rfl,hz,lz⟩:∃ z:Str,x=.str z/\z.length≤7/\Lc z:=by
   simp only [List.mem_cons,List.not_mem_nil,or_false] at hx
   rcases hx with rfl|rfl|rfl|rfl|rfl
   all_goals exact ⟨_,rfl,by decide +kernel,by unfold Lc;decide +kernel⟩
  refine ⟨_,rfl,_,rfl,z,rfl,Nat.le_trans hz (by decide),_,_,rfl,rfl,p,dc,_,rfl,D1,by omega,by omega,fun r H2 r0 r1 D2 b2=>?_⟩
  refine ⟨_,_,rfl,rfl,?_⟩
  refine ⟨rfl,_,rfl,_,rfl,by omega,by omega,?_⟩
  refine comp_range (n:=(1+r).toNat) (fun i ys σ' H'=>∃ (cs:List Str) (v:Option V),ys=cs.map V.str/\σ'=[v,some (.str "abcdefghijklmnopqrstuvwxyz"),some (.ref p)]/\Dr H' p dc/\But p H2 H'/\∀ c∈cs,c.length=1/\Lc c) (Nat.le_trans (show (1+r).toNat≤8 by omega) (by decide)) ⟨[],none,rfl,rfl,D2,But.refl,fun _ h=>nomatch h⟩ ?_ ?_
  ·rintro i ys σ' H' hi hys ⟨cs,v,rfl,rfl,D3,b3,hc⟩ N hN
   refine ⟨_,rfl,_,rfl,p,dc,_,rfl,D3,by decide,by decide,fun r' H4 r0' r1' D4 b4=>?_⟩
   obtain ⟨j,rfl⟩:=Int.eq_ofNat_of_zero_le r0'
   obtain ⟨c,hcj⟩:∃ c,("abcdefghijklmnopqrstuvwxyz" : Str).cps.toList[j]?=some c:=⟨_,List.getElem?_eq_getElem (by show j<26;omega)⟩
   have hat:atI ("abcdefghijklmnopqrstuvwxyz" : Str).cps.toList (j:Int)=some c:=atI_nat hcj
   refine ⟨_,_,c,rfl,rfl,(show 26≤sizeLine by decide),hat,?_⟩
   refine hN _ _ _ (by simpa using hys) ⟨cs++[⟨#[c]⟩],_,by simp,rfl,D4,b3.trans b4,fun c' hc'=>?_⟩
   rcases List.mem_append.mp hc' with hc'|hc'
   ·exact hc c' hc'
   ·obtain rfl:c'=⟨#[c]⟩:=by simpa using hc'
    refine ⟨rfl,fun x hx=>?_⟩
    obtain rfl:x=c:=by simpa using hx
    exact letters_at hat
  ·rintro ys σ' H' hys ⟨cs,v,rfl,rfl,D3,b3,hc⟩
   rw [List.length_map] at hys
   refine ⟨by rw [List.length_map,hys];exact Nat.le_trans (show (1+r).toNat≤8 by omega) (by decide),fun q2 hq2=>?_⟩
   have hsum:(cs.map (·.length)).sum=cs.length:=by
    clear hys
    induction cs with
    |nil=>rfl
    |cons c t ih=>rw [List.map_cons,List.sum_cons,ih fun d hd=>hc d (List.mem_cons_of_mem _ hd),(hc c List.mem_cons_self).1,List.length_cons,Nat.add_comm]
   refine ⟨_,q2,cs,rfl,rfl,SqL.of upd_same,by rw [hsum,show (Str.ofString "").length=0 from rfl];omega,?_⟩
   rw [txt_join]
   have jl:(Str.join (Str.ofString "") cs).length=cs.length:=by
    rw [len_cps,join_cps _ rfl,List.length_flatten,List.map_map,← hsum]
    congr 1
   have jc:Lc (Str.join (Str.ofString "") cs):=fun x hx=>by
    rw [join_cps _ rfl] at hx
    obtain ⟨l,hl,hxl⟩:=List.mem_flatten.mp hx
    obtain ⟨c,hcm,rfl⟩:=List.mem_map.mp hl
    exact (hc c hcm).2 x hxl
   generalize Str.join (Str.ofString "") cs=js at jl jc
   have hj8:js.length+z.length≤8/\1≤js.length:=by omega
   refine ⟨_,rfl,_,rfl,_,_,rfl,rfl,Nat.le_trans (show z.length+js.length≤8 by omega) (by decide),_,rfl,_,rfl,_,_,rfl,rfl,Nat.le_trans (show js.length+z.length≤8 by omega) (by decide),(show 2≤sizeLine by decide),fun q3 hq3=>?_⟩
   have D4:Dr _ p dc:=(D3.new (o:=.lst (cs.map V.str)) hq2).new (o:=.lst [.str (z++js),.str (js++z)]) hq3
   refine ⟨_,rfl,p,dc,_,rfl,D4,by decide,by decide,fun r' H5 r0' r1' D5 b5=>?_⟩
   have nm1:Nm (z++js):=⟨by rw [Str.length_append];omega,by rw [Str.length_append];omega,lz.app jc⟩
   have nm2:Nm (js++z):=⟨by rw [Str.length_append];omega,by rw [Str.length_append];omega,jc.app lz⟩
   have bt:But p H H5:=((((But.new hq).trans b1).trans b2).trans b3).trans (((But.new hq2).trans (But.new hq3)).trans b5)
   have hq5:SqL K H5 q3 [.str (z++js),.str (js++z)]:=D4.seq b5 (SqL.of upd_same)
   by_cases h0:r'=0
   ·subst h0
    exact ⟨_,_,_,_,rfl,rfl,hq5,rfl,k _ _ nm1 D5 bt⟩
   ·obtain rfl:r'=1:=by omega
    exact ⟨_,_,_,_,rfl,rfl,hq5,rfl,k _ _ nm2 D5 bt⟩
def spWords (K:PySem.W.Frag):Sp:=fun vs H Q _=>∃ (p dc:Addr) (m:Int),vs=[.ref p,.int m]/\Dr H p dc/\0≤m/\m≤60/\∀ (q:Addr) (ys:List Str) (H':Hp),H' q=some (.lst (ys.map V.str))->H q=none->(ys.length:Int)=m->(∀ y∈ys,Nm y)->ys.Nodup->Dr H' p dc->But p H H'->Q (.ref q) H'
theorem scWs:FnScope ["_law_d","_law_many","_law_found","_law_k","_law_word_here","_law_step"] ["_law_d","_law_many"] (defScope (top 43)):=⟨rfl,rfl,rfl,by decide +kernel,rfl,by decide +kernel,by decide +kernel⟩
def wd (t:Nat):Str:=⟨#[97+t % 8,113+t / 8 % 8]⟩
theorem wd_nm (t:Nat):Nm (wd t):=⟨by show 1≤2;decide,by show 2≤8;decide,fun c hc=>by
 have:c=97+t % 8∨c=113+t / 8 % 8:=by simpa [wd] using hc
 omega⟩
theorem wd_inj {k s s':Nat} (h:wd (k+s)=wd (k+s')) (h1:s<64) (h2:s'<64):s=s':=by
 have e:(#[97+(k+s) % 8,113+(k+s) / 8 % 8]:Array Nat)=#[97+(k+s') % 8,113+(k+s') / 8 % 8]:=congrArg Str.cps h
 have e1:97+(k+s) % 8=97+(k+s') % 8/\113+(k+s) / 8 % 8=113+(k+s') / 8 % 8:=by simpa using congrArg Array.toList e
 omega
theorem sub_len {α:Type} [DecidableEq α]:∀ {l ys:List α},l.Nodup->(∀ x∈l,x∈ys)->l.length≤ys.length
 |[],_,_,_=>Nat.zero_le _
 | a::l,ys,nd,hs=>by
   obtain ⟨n1,n2⟩:=List.nodup_cons.mp nd
   have ha:=hs a List.mem_cons_self
   have q:=sub_len (ys:=ys.erase a) n2 fun x hx=>(List.mem_erase_of_ne (by intro z;exact n1 (z ▸ hx))).mpr (hs x (List.mem_cons_of_mem _ hx))
   rw [List.length_erase_of_mem ha] at q
   have:=List.length_pos_of_mem ha
   rw [List.length_cons];omega
theorem nd_map {α β:Type} {f:α->β}:∀ {l:List α},l.Nodup->(∀ a∈l,∀ b∈l,f a=f b->a=b)->(l.map f).Nodup
 |[],_,_=>List.nodup_nil
 | a::l,nd,h=>by
   obtain ⟨n1,n2⟩:=List.nodup_cons.mp nd
   rw [List.map_cons]
   refine List.nodup_cons.mpr ⟨fun m=>?_,nd_map n2 fun x hx y hy=>h x (List.mem_cons_of_mem _ hx) y (List.mem_cons_of_mem _ hy)⟩
   obtain ⟨b,hb,e⟩:=List.mem_map.mp m
   exact n1 (h b (List.mem_cons_of_mem _ hb) a List.mem_cons_self e ▸ hb)
theorem wd_new {k:Nat} {ys:List Str} (hl:ys.length<64) (h:∀ s,s<64->wd (k+s)∈ys):False:=by
 have nd:((List.range 64).map fun s=>wd (k+s)).Nodup:=nd_map List.nodup_range fun a ha b hb e=>wd_inj e (List.mem_range.mp ha) (List.mem_range.mp hb)
 have q:=sub_len nd fun x hx=>by
  obtain ⟨s,hs,rfl⟩:=List.mem_map.mp hx
  exact h s (List.mem_range.mp hs)
 rw [List.length_map,List.length_range] at q
 omega
theorem ok_words {f fP fO fW:Addr} {fd fdP fdO fdW:FuncData} (F:Fun K "_law_words" "_law_words" (top 43) f fd) (T:Txt K mg) (DP:Def K mg "_law_pick" (top 40) ["_law_d","_law_many"] fP fdP) (DO:Def K mg "_law_of" (top 41) ["_law_d","_law_things"] fO fdO)
 (DW:Def K mg "_law_word" (top 42) ["_law_d"] fW fdW):FnOk P w K mg base CX0 4 f fd ["_law_d","_law_many"] (spWords K):=by
 have GW:FnOk P w K mg base CX0 3 fW fdW ["_law_d"] spWord:=ok_word DW.F T DP DO
 refine F.ok scWs (fun vs H Q E h=>?_) (fun cdv A outer s H vs Q E hr h=>?_)
 ·obtain ⟨p,dc,m,rfl,_⟩:=h
  rfl
 ·obtain ⟨p,dc,m,rfl,D,m0,m1,k⟩:=h
  refine ⟨_,(pss_cons
 (ps_set (i:=2) scWs.nd rfl (Or.inl rfl) (pe_lst pa_nil))
 (pss_cons
 (ps_for PassesOwn.never rfl (pi_range1 rfl T.range (pa_cons (pv 1) pa_nil)) (pg_name (i:=3) scWs.nd rfl (Or.inl rfl)) (pss_cons
 (ps_set (i:=4) scWs.nd rfl (Or.inl rfl) (pe_call GW hr rfl DW.mg DW.F.kp DW.b .nil pass0 (pa_cons (pv 0) pa_nil)))
 (pss_cons
 (ps_for PassesOwn.never rfl (pi_range1 rfl T.range (pa_cons pe_int pa_nil)) (pg_name (i:=5) scWs.nd rfl (Or.inl rfl)) (pss_one
 (ps_if (pt_cmpR op_in_seq (pv 4) (pv 2) rfl) (pss_one
 (ps_set (i:=4) scWs.nd rfl (Or.inl rfl) (pe_op op_add_str (pe_ix ix_str pe_str (pe_op op_mod (pe_op op_add (pv 3) (pv 5)) pe_int) (fun _ _=>rfl)) (pe_ix ix_str pe_str (pe_op op_mod (pe_op op_fdiv (pe_op op_add (pv 3) (pv 5)) pe_int) pe_int) (fun _ _=>rfl))))) pss_nil)))
 (pss_one
 (ps_expr (pe_bm PySem.F.plainAttrs_list PySem.F.slot_list_append PySem.F.type_list_append mt_append (pv 2) (pa_cons (pv 4) pa_nil)))))))
 (pss_one
 (ps_ret (pv 2))))),?_⟩
  refine ⟨(show 0≤sizeLine by decide),fun q hq=>?_⟩
  refine ⟨_,rfl,m,rfl,by omega,by omega,?_⟩
  refine for_range (n:=m.toNat) (fun i σ H1=>∃ (ys:List Str) (a b c:Option V),σ=[some (.ref p),some (.int m),some (.ref q),a,b,c]/\H1 q=some (.lst (ys.map V.str))/\ys.length=i/\(∀ y∈ys,Nm y)/\ys.Nodup/\Dr H1 p dc/\But p H H1)
   ⟨[],none,none,none,rfl,upd_same,rfl,(fun _ h=>by cases h),List.nodup_nil,D.new hq,But.new hq⟩ ?_ ?_
  ·rintro i σ H1 hi ⟨ys,a,b,c,rfl,e1,hl,hy,nd,D1,b1⟩
   refine ⟨_,rfl,p,dc,rfl,D1,fun x H2 nx D2 b2=>?_⟩
   have e2:H2 q=some (.lst (ys.map V.str)):=b2 q _ e1 (D1.ne e1 (by intro kvs z;cases z))
   refine ⟨_,rfl,by decide,by decide,?_⟩
   refine for_range (n:=64) (fun j σ H3=>∃ (z:Str) (c:Option V),σ=[some (.ref p),some (.int m),some (.ref q),some (.int (0+(i:Int))),some (.str z),c]/\Nm z/\H3=H2/\(z∉ys∨∀ s,s<j->wd (i+s)∈ys)) ⟨x,_,rfl,nx,rfl,.inr fun s hs=>absurd hs (Nat.not_lt_zero _)⟩ ?_ ?_
   ·rintro j σ H3 hj ⟨z,c,rfl,nz,rfl,hz⟩
    refine ⟨_,rfl,_,rfl,q,_,rfl,.inl (SqL.of e2),rfl,?_,_,rfl,?_⟩
    ·rw [List.all_eq_true]
     intro v hv
     obtain ⟨y,_,rfl⟩:=List.mem_map.mp hv
     rfl
    ·have hin:inV (.str z) (ys.map V.str)=true↔z∈ys:=by
      unfold inV
      rw [List.any_map,List.any_eq_true]
      constructor
      ·rintro ⟨y,hy1,hy2⟩
       have:y=z:=by simpa [eqV] using hy2
       exact this ▸ hy1
      ·intro hz'
       exact ⟨z,hz',by simp [eqV]⟩
     refine ite2 (fun hc=>?_) (fun hc=>⟨z,_,rfl,nz,rfl,.inl fun hz'=>hc (hin.mpr hz')⟩)
     have hz1:=hin.mp hc
     have hz2:∀ s,s<j->wd (i+s)∈ys:=hz.elim (fun n=>absurd hz1 n) id
     have u1:(0+(i:Int)+(0+(j:Int))) % 8=(((i+j) % 8:Nat):Int):=by omega
     have u2:(0+(i:Int)+(0+(j:Int))) / 8 % 8=(((i+j) / 8 % 8:Nat):Int):=by omega
     have h1:("abcdefgh" : Str).cps.toList[(i+j) % 8]?=some (97+(i+j) % 8):=by
      have:=Nat.mod_lt (i+j) (show 0<8 by decide)
      generalize (i+j) % 8=m8 at this
      revert m8;decide +kernel
     have h2:("qrstuvwx" : Str).cps.toList[(i+j) / 8 % 8]?=some (113+(i+j) / 8 % 8):=by
      have:=Nat.mod_lt ((i+j) / 8) (show 0<8 by decide)
      generalize (i+j) / 8 % 8=m8 at this
      revert m8;decide +kernel
     refine ⟨_,rfl,_,rfl,_,_,rfl,rfl,_,_,rfl,rfl,(by show (0:Int)<8;decide),_,_,_,rfl,rfl,(show 8≤sizeLine by decide),(by rw [u1];exact atI_nat h1),?_⟩
     refine ⟨_,rfl,_,rfl,_,_,rfl,rfl,_,_,rfl,rfl,⟨by decide,by decide⟩,_,_,rfl,rfl,(by show (0:Int)<8;decide),_,_,_,rfl,rfl,(show 8≤sizeLine by decide),(by rw [u2];exact atI_nat h2),?_⟩
     refine ⟨_,_,rfl,rfl,(show 1+1≤sizeLine by decide),wd (i+j),_,rfl,wd_nm _,rfl,?_⟩
     by_cases hw:wd (i+j)∈ys
     ·refine .inr fun s hs=>?_
      by_cases hsj:s=j
      ·rw [hsj];exact hw
      ·exact hz2 s (by omega)
     ·exact .inl hw
   ·rintro σ H3 ⟨z,c,rfl,nz,rfl,hz⟩
    have znew:z∉ys:=hz.elim id fun h=>(wd_new (by omega) h).elim
    refine ⟨_,rfl,.inl ⟨rfl,_,SqL.of e2⟩,_,rfl,q,_,_,rfl,rfl,e2,by rw [List.length_map];exact small1000 (by omega),?_⟩
    have nqc:q≠dc:=by
     obtain ⟨xs,e⟩:=D.cell
     exact (ne_of_none e hq).symm
    have nqp:q≠p:=D2.ne e2 (by intro kvs z;cases z)
    refine ⟨ys++[z],_,_,_,rfl,by rw [upd_same];simp,by simp [hl],fun y hy'=>(List.mem_append.mp hy').elim (hy y) (fun h=>by rw [List.mem_singleton.mp h];exact nz),nd_snoc nd znew,D2.put nqp nqc,fun b o e hb=>?_⟩
    rw [upd_ne (ne_of_none e hq)]
    exact (b1.trans b2) b o e hb
  ·rintro σ H1 ⟨ys,a,b,c,rfl,e1,hl,hy,nd,D1,b1⟩
   exact ⟨_,rfl,k q ys H1 e1 hq (by omega) hy nd D1 b1⟩
end
abbrev Fld:=Str×Int×Int
structure FldOk (f:Fld):Prop where
 nm:Nm f.1
 lo:-999999≤f.2.1
 le:f.2.1≤f.2.2
 hi:f.2.2≤999999
def TK (H H':Hp):Prop:=∀ b xs,H b=some (.tup xs)->H' b=some (.tup xs)
theorem TK.trans {H H1 H2:Hp} (a:TK H H1) (b:TK H1 H2):TK H H2:=fun c xs h=>b c xs (a c xs h)
theorem TK.but {H H':Hp} {p dc:Addr} (d:Dr H p dc) (b:But p H H'):TK H H':=fun c xs h=>b c _ h (d.ne h (by intro kvs z;cases z))
theorem TK.lst {H:Hp} {q:Addr} {xs:List V} {o:HO} (h:H q=some (.lst xs)):TK H (upd H q o):=fun c ys e=>by rw [upd_ne (ne_of e h (by intro z;cases z))];exact e
theorem TK.new {H:Hp} {q:Addr} {o:HO} (h:H q=none):TK H (upd H q o):=fun c ys e=>by rw [upd_ne (ne_of_none e h)];exact e
def FldAt (H:Hp) (x:V) (f:Fld):Prop:=∃ b,x=.ref b/\H b=some (.tup [.str f.1,.int f.2.1,.int f.2.2])
theorem FldAt.tk {H H':Hp} {x:V} {f:Fld} (h:FldAt H x f) (k:TK H H'):FldAt H' x f:=let ⟨b,e,q⟩:=h;⟨b,e,k _ _ q⟩
theorem flds_tk {H H':Hp}:∀ {xs:List V} {fs:List Fld},Paired (FldAt H) xs fs->TK H H'->Paired (FldAt H') xs fs
 |_,_,.nil,_=>.nil
 |_,_,.cons r t,k=>.cons (r.tk k) (flds_tk t k)
section
variable {P:Program} {w:World} {K:PySem.W.Frag} {mg:Str->Option Value} {base:Heap}
def spBound:Sp:=fun vs H Q _=>∃ (p dc:Addr),vs=[.ref p]/\Dr H p dc/\∀ (z:Int) (H':Hp),-999999≤z->z≤999999->Dr H' p dc->But p H H'->Q (.int z) H'
theorem scBd:FnScope ["_law_d","_law_near"] ["_law_d"] (defScope (top 44)):=⟨rfl,rfl,rfl,by decide +kernel,rfl,by decide +kernel,by decide +kernel⟩
theorem ok_bound {f fP fO:Addr} {fd fdP fdO:FuncData} (F:Fun K "_law_bound" "_law_bound" (top 44) f fd) (T:Txt K mg) (DP:Def K mg "_law_pick" (top 40) ["_law_d","_law_many"] fP fdP) (DO:Def K mg "_law_of" (top 41) ["_law_d","_law_things"] fO fdO) :
 FnOk P w K mg base CX0 3 f fd ["_law_d"] spBound:=by
 have GP:FnOk P w K mg base CX0 1 fP fdP ["_law_d","_law_many"] spPick:=ok_pick DP.F T
 have GO:FnOk P w K mg base CX0 2 fO fdO ["_law_d","_law_things"] (spOf K):=ok_of DO.F T DP
 refine F.ok scBd (fun vs H Q E h=>?_) (fun cdv A outer s H vs Q E hr h=>?_)
 ·obtain ⟨p,dc,rfl,_⟩:=h
  rfl
 ·obtain ⟨p,dc,rfl,D,k⟩:=h
  have hr1:Room 1 _:=hr.mono (by decide)
  refine ⟨_,(pss_cons
 (ps_set (i:=1) scBd.nd rfl (Or.inl rfl) (pe_lst (pa_cons pe_int (pa_cons pe_int (pa_cons pe_int (pa_cons (pe_call GP hr1 rfl DP.mg DP.F.kp DP.b .nil pass0 (pa_cons (pv 0) (pa_cons pe_int pa_nil))) (pa_cons (pe_op op_sub (pe_call GP hr1 rfl DP.mg DP.F.kp DP.b .nil pass0 (pa_cons (pv 0) (pa_cons pe_int pa_nil))) pe_int) pa_nil)))))))
 (pss_one
 (ps_ret (pe_call GO hr rfl DO.mg DO.F.kp DO.b .nil pass0 (pa_cons (pv 0) (pa_cons (pe_op op_cat (pv 1) (pe_lst (pa_cons pe_int (pa_cons (pe_un un_neg pe_int) (pa_cons (pe_op op_sub (pe_call GP hr1 rfl DP.mg DP.F.kp DP.b .nil pass0 (pa_cons (pv 0) (pa_cons pe_int pa_nil))) pe_int) pa_nil))))) pa_nil)))))),?_⟩
  refine ⟨_,rfl,p,dc,_,rfl,D,by decide,by decide,fun r1 H1 a1 b1 D1 t1=>?_⟩
  refine ⟨_,rfl,p,dc,_,rfl,D1,by decide,by decide,fun r2 H2 a2 b2 D2 t2=>⟨_,_,rfl,rfl,(show 5≤sizeLine by decide),fun q1 h1=>?_⟩⟩
  have D2':=D2.new (o:=.lst [.int 0,.int 0,.int 5,.int r1,.int (r2-20)]) h1
  refine ⟨_,rfl,_,rfl,_,rfl,_,rfl,p,dc,_,rfl,D2',by decide,by decide,fun r3 H3 a3 b3 D3 t3=>⟨_,_,rfl,rfl,(show 3≤sizeLine by decide),fun q2 h2=>?_⟩⟩
  have e1:H3 q1=some (.lst [.int 0,.int 0,.int 5,.int r1,.int (r2-20)]):=t3 q1 _ upd_same (D2'.ne upd_same (by intro kvs z;cases z))
  refine ⟨q1,q2,_,_,rfl,rfl,(Same.new h2) _ _ e1,upd_same,(show 5+3≤sizeLine by decide),fun q3 h3=>?_⟩
  have D4:=(D3.new (o:=.lst [.int 999999,.int (-999999),.int (r3-999999)]) h2)
  refine ⟨p,dc,q3,_,rfl,D4.new h3,SqL.of upd_same,by simp,by simp,fun x H5 hx D5 t5=>?_⟩
  obtain ⟨z,rfl,z0,z1⟩:∃ z:Int,x=.int z/\-999999≤z/\z≤999999:=by
   simp only [List.cons_append,List.nil_append,List.mem_cons,List.not_mem_nil,or_false] at hx
   rcases hx with rfl|rfl|rfl|rfl|rfl|rfl|rfl|rfl
   all_goals exact ⟨_,rfl,by omega,by omega⟩
  exact k z H5 z0 z1 D5 (((t1.trans t2).trans (But.new h1)).trans (((t3.trans (But.new h2)).trans (But.new h3)).trans t5))
def spFields (K:PySem.W.Frag):Sp:=fun vs H Q _=>∃ (p dc:Addr) (m:Int),vs=[.ref p,.int m]/\Dr H p dc/\0≤m/\m≤60/\∀ (a:Addr) (xs:List V) (fs:List Fld) (H':Hp),H' a=some (.tup xs)->Paired (FldAt H') xs fs->(fs.length:Int)=m->(∀ f∈fs,FldOk f)->(fs.map (·.1)).Nodup->H a=none->Dr H' p dc->But p H H'->Q (.ref a) H'
theorem scFs:FnScope ["_law_d","_law_many","_law_names","_law_found","_law_title","_law_low","_law_high"] ["_law_d","_law_many"] (defScope (top 45)):=⟨rfl,rfl,rfl,by decide +kernel,rfl,by decide +kernel,by decide +kernel⟩
theorem ok_fields {f fP fO fW fWs fB:Addr} {fd fdP fdO fdW fdWs fdB:FuncData} (F:Fun K "_law_fields" "_law_fields" (top 45) f fd) (T:Txt K mg) (DP:Def K mg "_law_pick" (top 40) ["_law_d","_law_many"] fP fdP) (DO:Def K mg "_law_of" (top 41) ["_law_d","_law_things"] fO fdO)
 (DW:Def K mg "_law_word" (top 42) ["_law_d"] fW fdW) (DWs:Def K mg "_law_words" (top 43) ["_law_d","_law_many"] fWs fdWs) (DB:Def K mg "_law_bound" (top 44) ["_law_d"] fB fdB):FnOk P w K mg base CX0 5 f fd ["_law_d","_law_many"] (spFields K):=by
 have GP:FnOk P w K mg base CX0 1 fP fdP ["_law_d","_law_many"] spPick:=ok_pick DP.F T
 have GO:FnOk P w K mg base CX0 2 fO fdO ["_law_d","_law_things"] (spOf K):=ok_of DO.F T DP
 have GWs:FnOk P w K mg base CX0 4 fWs fdWs ["_law_d","_law_many"] (spWords K):=ok_words DWs.F T DP DO DW
 have GB:FnOk P w K mg base CX0 3 fB fdB ["_law_d"] spBound:=ok_bound DB.F T DP DO
 refine F.ok scFs (fun vs H Q E h=>?_) (fun cdv A outer s H vs Q E hr h=>?_)
 ·obtain ⟨p,dc,m,rfl,_⟩:=h
  rfl
 ·obtain ⟨p,dc,m,rfl,D,m0,m1,k⟩:=h
  have hr1:Room 1 _:=hr.mono (by decide)
  have hr2:Room 2 _:=hr.mono (by decide)
  have hr3:Room 3 _:=hr.mono (by decide)
  refine ⟨_,(pss_cons
 (ps_set (i:=2) scFs.nd rfl (Or.inl rfl) (pe_call GWs hr rfl DWs.mg DWs.F.kp DWs.b .nil pass0 (pa_cons (pv 0) (pa_cons (pv 1) pa_nil))))
 (pss_cons
 (ps_set (i:=3) scFs.nd rfl (Or.inl rfl) (pe_lst pa_nil))
 (pss_cons
 (ps_for PassesOwn.never rfl (pi_list (pv 2)) (pg_name (i:=4) scFs.nd rfl (Or.inl rfl)) (pss_cons
 (ps_set (i:=5) scFs.nd rfl (Or.inl rfl) (pe_call GB hr3 rfl DB.mg DB.F.kp DB.b .nil pass0 (pa_cons (pv 0) pa_nil)))
 (pss_cons
 (ps_set (i:=6) scFs.nd rfl (Or.inl rfl) (pe_callB (call_min2 rfl) (by rfl) T.min bt_min (pa_cons pe_int (pa_cons (pe_op op_add (pv 5) (pe_call GO hr2 rfl DO.mg DO.F.kp DO.b .nil pass0 (pa_cons (pv 0) (pa_cons (pe_lst (pa_cons pe_int (pa_cons pe_int (pa_cons pe_int (pa_cons pe_int (pa_cons (pe_call GP hr1 rfl DP.mg DP.F.kp DP.b .nil pass0 (pa_cons (pv 0) (pa_cons pe_int pa_nil))) pa_nil)))))) pa_nil)))) pa_nil))))
 (pss_one
 (ps_expr (pe_bm PySem.F.plainAttrs_list PySem.F.slot_list_append PySem.F.type_list_append mt_append (pv 3) (pa_cons (pe_tup (pa_cons (pv 4) (pa_cons (pv 5) (pa_cons (pv 6) pa_nil)))) pa_nil)))))))
 (pss_one
 (ps_ret (pe_callTy call_tuple_of (by rfl) T.tuple bt_tuple (pa_cons (pv 3) pa_nil))))))),?_⟩
  refine ⟨_,rfl,_,rfl,p,dc,m,rfl,D,m0,m1,fun q ys H1 e1 hq hl hy nd D1 t1=>?_⟩
  refine ⟨(show 0≤sizeLine by decide),fun q2 h2=>?_⟩
  have D1':=D1.new (o:=.lst []) h2
  have e1':(upd H1 q2 (.lst [])) q=some (.lst (ys.map V.str)):=(Same.new h2) _ _ e1
  have nq:q2≠q:=(ne_of_none e1 h2).symm
  have hq2:H q2=none:=by
   cases e:H q2 with
   |none=>rfl
   |some o=>rw [t1 q2 o e (D1.neN h2).symm] at h2;cases h2
  have nq2c:q2≠dc:=by
   obtain ⟨xs,e⟩:=D1.cell
   exact (ne_of_none e h2).symm
  refine ⟨_,rfl,q,rfl,⟨_,SqL.of e1'⟩,for_list (K:=K) (a:=q) (xs:=ys.map V.str) (fun i σ H2=>∃ (xs:List V) (fs:List Fld) (a b c:Option V),σ=[some (.ref p),some (.int m),some (.ref q),some (.ref q2),a,b,c]/\H2 q=some (.lst (ys.map V.str))/\H2 q2=some (.lst xs)/\Paired (FldAt H2) xs fs/\fs.map (·.1)=ys.take i/\(∀ f∈fs,FldOk f)/\Dr H2 p dc/\But p H H2)
   ⟨[],[],none,none,none,rfl,e1',upd_same,.nil,by simp,(fun _ h=>by cases h),D1',t1.trans (But.new h2)⟩ (fun i σ H2 _ ⟨_,_,_,_,_,_,e,_⟩=>SqL.of e) ?_ ?_⟩
  ·rintro i y σ H2 hi ⟨xs,fs,a,b,c,rfl,g1,g2,pf,hm,hf,D2,t2⟩
   rw [List.getElem?_map] at hi
   obtain ⟨n,hn,rfl⟩:=Option.map_eq_some_iff.mp hi
   have hil:i<ys.length:=(List.getElem?_eq_some_iff.mp hn).1
   refine ⟨_,rfl,p,dc,rfl,D2,fun lo H3 l0 l1 D3 t3=>?_⟩
   have np:∀ {b:Addr} {ws:List V} {H':Hp},Dr H' p dc->H' b=some (.lst ws)->b≠p:=fun d e=>d.ne e (by intro kvs z;cases z)
   refine ⟨_,rfl,_,rfl,_,rfl,p,dc,_,rfl,D3,by decide,by decide,fun r H4 r0 r1 D4 t4=>⟨(show 5≤sizeLine by decide),fun q3 h3=>?_⟩⟩
   have D4':=D4.new (o:=.lst [.int 0,.int 1,.int 3,.int 9,.int r]) h3
   refine ⟨p,dc,q3,_,rfl,D4',SqL.of upd_same,by simp,by simp,fun x H5 hx D5 t5=>?_⟩
   obtain ⟨z,rfl,z0⟩:∃ z:Int,x=.int z/\0≤z:=by
    simp only [List.mem_cons,List.not_mem_nil,or_false] at hx
    rcases hx with rfl|rfl|rfl|rfl|rfl
    all_goals exact ⟨_,rfl,by omega⟩
   refine ⟨_,_,rfl,rfl,_,_,rfl,?_⟩
   have t35:But p H2 H5:=((t3.trans t4).trans (But.new h3)).trans t5
   have g1':H5 q=some (.lst (ys.map V.str)):=t35 q _ g1 (np D2 g1)
   have g2':H5 q2=some (.lst xs):=t35 q2 _ g2 (np D2 g2)
   have k5:TK H2 H5:=TK.but D2 t35
   refine ⟨_,rfl,.inl ⟨rfl,_,SqL.of g2'⟩,_,rfl,_,rfl,_,rfl,(show 3≤sizeLine by decide),fun q4 h4=>?_⟩
   have g2'':∀ o,(upd H5 q4 o) q2=some (.lst xs):=fun o=>(Same.new h4) _ _ g2'
   have hlen:fs.length=i:=by
    have:=congrArg List.length hm
    rw [List.length_map,List.length_take] at this
    omega
   have pl:=Paired.length pf
   refine ⟨q2,xs,_,rfl,rfl,g2'' _,small1000 (by omega),?_⟩
   generalize hhi:(if lo+z<999999 then lo+z else 999999)=hi'
   have h1:lo≤hi'/\hi'≤999999:=by rw [← hhi];split <;> omega
   refine ⟨xs++[.ref q4],fs++[(n,lo,hi')],_,_,_,rfl,?_,upd_same,?_,?_,?_,?_,?_⟩
   ·rw [upd_ne nq.symm];exact (Same.new h4) _ _ g1'
   ·refine Paired.snoc (flds_tk pf (k5.trans ((TK.new h4).trans (TK.lst (g2'' _))))) ⟨q4,rfl,?_⟩
    exact (TK.lst (g2'' _)) _ _ upd_same
   ·rw [List.map_append,hm,List.take_add_one,hn];rfl
   ·intro f hf'
    rcases List.mem_append.mp hf' with hf'|hf'
    ·exact hf f hf'
    ·obtain rfl:f=(n,lo,hi'):=by simpa using hf'
     exact ⟨hy n (List.mem_of_getElem? hn),l0,h1.1,h1.2⟩
   ·exact (D5.new h4).put (np (D5.new (o:=.tup [.str n,.int lo,.int hi']) h4) (g2'' _)) nq2c
   ·intro b o e hb
    rw [upd_ne (ne_of_none e hq2)]
    exact (Same.new h4) _ _ ((t2.trans t35) b o e hb)
  ·rintro σ H2 ⟨xs,fs,a,b,c,rfl,g1,g2,pf,hm,hf,D2,t2⟩
   rw [List.length_map,List.take_length] at hm
   refine ⟨_,rfl,q2,xs,rfl,.inl ⟨SqL.of g2,fun l hn=>?_⟩⟩
   refine k l xs fs _ upd_same (flds_tk pf (TK.new hn)) ?_ hf (by rw [hm];exact nd) ?_ (D2.new hn) (t2.trans (But.new hn))
   ·rw [← List.length_map (f:=(·.1)),hm];exact hl
   ·cases e:H l with
    |none=>rfl
    |some o=>rw [t2 l o e (D2.neN hn).symm] at hn;cases hn
end
theorem uni:∀ c<128,Unicode.isAlpha c=(decide (65≤c/\c≤90) || decide (97≤c/\c≤122))/\Unicode.isLower c=decide (97≤c/\c≤122)/\Unicode.isUpper c=decide (65≤c/\c≤90)/\Unicode.isTitle c=false:=by decide +kernel
def nameB (x:Str):Bool:=decide (x.length≤8) && (x.cps.all (·<128) && ((x.length > 0 && x.cps.all Unicode.isAlpha) && (x.cps.any Unicode.isLower && !x.cps.any fun c=>Unicode.isUpper c || Unicode.isTitle c)))
theorem nameB_iff (x:Str):nameB x=true↔Nm x:=by
 unfold nameB
 simp only [Bool.and_eq_true,decide_eq_true_eq,Bool.not_eq_true',← Array.all_toList,← Array.any_toList,List.all_eq_true,List.any_eq_true,List.any_eq_false]
 constructor
 ·rintro ⟨h8,ha,⟨h0,hal⟩,⟨c0,hc0,hl0⟩,hu⟩
  refine ⟨h0,h8,fun c hc=>?_⟩
  have c1:c<128:=ha c hc
  obtain ⟨u1,u2,u3,u4⟩:=uni c c1
  have a1:=hal c hc
  have a2:=hu c hc
  rw [u1] at a1
  rw [u3,u4] at a2
  simp at a1 a2
  omega
 ·rintro ⟨h0,h8,lc⟩
  have cc:∀ c∈x.cps.toList,c<128/\97≤c/\c≤122:=fun c hc=>⟨by have:=lc c hc;omega,lc c hc⟩
  refine ⟨h8,fun c hc=>(cc c hc).1,⟨h0,fun c hc=>?_⟩,?_,fun c hc=>?_⟩
  ·rw [(uni c (cc c hc).1).1];simp [(cc c hc).2]
  ·rw [len_cps] at h0
   obtain ⟨c,hc⟩:=List.exists_mem_of_length_pos (show 0<x.cps.toList.length by omega)
   exact ⟨c,hc,by rw [(uni c (cc c hc).1).2.1];simp [(cc c hc).2]⟩
  ·rw [(uni c (cc c hc).1).2.2.1,(uni c (cc c hc).1).2.2.2]
   have:=(cc c hc).2
   simp;omega
structure TxtK (mg:Str->Option Value):Prop where
 ml:∃ t,mg "MOST_LETTERS" = some (.int 8 t)
 mf:∃ t,mg "MOST_FIELDS" = some (.int 4 t)
 lim:∃ t,mg "LIMIT" = some (.int 999999 t)
section
variable {P:Program} {w:World} {K:PySem.W.Frag} {mg:Str->Option Value} {base:Heap}
def spIsName:Sp:=fun vs H Q _=>∃ x:Str,vs=[.str x]/\x.length≤sizeLine/\Q (.bl (nameB x)) H
theorem scIN:FnScope ["text"] ["text"] (defScope (top 16)):=⟨rfl,rfl,rfl,by decide +kernel,rfl,by decide +kernel,by decide +kernel⟩
theorem ok_isname {f:Addr} {fd:FuncData} (F:Fun K "is_name" "is_name" (top 16) f fd) (T:Txt K mg) (TK:TxtK mg):FnOk P w K mg base CX0 1 f fd ["text"] spIsName:=by
 refine F.ok scIN (fun vs H Q E h=>?_) (fun cdv A outer s H vs Q E hr h=>?_)
 ·obtain ⟨x,rfl,_⟩:=h
  rfl
 ·obtain ⟨x,rfl,hl,k⟩:=h
  obtain ⟨t8,m8⟩:=TK.ml
  refine ⟨_,(pss_one
 (ps_ret (pe_and (pe_cmpR op_le (pe_callB call_len_str (by rfl) T.len bt_len (pa_cons (pv 0) pa_nil)) (pe_glob (v:=.int 8) rfl m8 ⟨_,rfl⟩) (nomark _)) (pe_and (pe_bm0 PySem.F.plainAttrs_str PySem.F.slot_str_isascii PySem.F.type_str_isascii mt_isascii (pv 0)) (pe_and (pe_bm0 PySem.F.plainAttrs_str PySem.F.slot_str_isalpha PySem.F.type_str_isalpha mt_isalpha (pv 0)) (pe_one (pe_bm0 PySem.F.plainAttrs_str PySem.F.slot_str_islower PySem.F.type_str_islower mt_islower (pv 0)))))))),?_⟩
  refine ⟨_,rfl,x,rfl,hl,_,_,rfl,rfl,_,rfl,?_⟩
  unfold nameB at k
  by_cases h8:x.length≤8
  ·refine ifT (by simp;omega) ⟨_,rfl,rfl,x,rfl,rfl,_,rfl,?_⟩
   rw [decide_eq_true h8,Bool.true_and] at k
   cases h1:x.cps.all (·<128) with
   |false=>rw [h1] at k;exact ifF h1 k
   | true=>
     rw [h1,Bool.true_and] at k
     refine ifT h1 ⟨_,rfl,rfl,x,rfl,rfl,_,rfl,?_⟩
     cases h2:(x.length > 0 && x.cps.all Unicode.isAlpha) with
     |false=>rw [h2] at k;exact ifF h2 k
     | true=>
       rw [h2,Bool.true_and] at k
       exact ifT h2 ⟨_,rfl,rfl,x,rfl,rfl,k⟩
  ·refine ifF (by simp;omega) ?_
   rw [decide_eq_false h8,Bool.false_and] at k
   exact k
def spNeedName:Sp:=fun vs H Q _=>∃ x:Str,vs=[.str x]/\Nm x/\Q .non H
theorem scNN:FnScope ["text"] ["text"] (defScope (top 17)):=⟨rfl,rfl,rfl,by decide +kernel,rfl,by decide +kernel,by decide +kernel⟩
theorem ok_needname {f fI:Addr} {fd fdI:FuncData} (F:Fun K "need_name" "need_name" (top 17) f fd) (T:Txt K mg) (TK:TxtK mg) (DI:Def K mg "is_name" (top 16) ["text"] fI fdI):FnOk P w K mg base CX0 2 f fd ["text"] spNeedName:=by
 have GI:FnOk P w K mg base CX0 1 fI fdI ["text"] spIsName:=ok_isname DI.F T TK
 refine F.ok scNN (fun vs H Q E h=>?_) (fun cdv A outer s H vs Q E hr h=>?_)
 ·obtain ⟨x,rfl,_⟩:=h
  rfl
 ·obtain ⟨x,rfl,nm,k⟩:=h
  refine ⟨_,(pss_one (ps_if (pt_not (pt_val (pe_call GI hr rfl DI.mg DI.F.kp DI.b .nil pass0 (pa_cons (pv 0) pa_nil)))) (pss_one ps_never) pss_nil)),?_⟩
  refine ⟨_,rfl,x,rfl,Nat.le_trans nm.hi (by decide),_,rfl,?_⟩
  rw [(nameB_iff x).mpr nm]
  exact ifF rfl k
def spNeedFields:Sp:=fun vs H Q _=>∃ (a:Addr) (xs:List V) (fs:List Fld),vs=[.ref a]/\H a=some (.tup xs)/\Paired (FldAt H) xs fs/\fs.length≤60/\(∀ f∈fs,FldOk f)/\(fs.map (·.1)).Nodup/\∀ H',Same H H'->Q .non H'
theorem paired_at {α β:Type} {F:α->β->Prop}:∀ {xs:List α} {ys:List β} {i:Nat} {x:α},Paired F xs ys->xs[i]?=some x->∃ y,ys[i]?=some y/\F x y
 |_,_,_,_,.nil,e=>by simp at e
 |_,_,0,_,.cons r _,e=>by simp at e;subst e;exact ⟨_,rfl,r⟩
 | _,_,i+1,x,.cons _ t,e=>by
   obtain ⟨y,h1,h2⟩:=paired_at (i:=i) (x:=x) t (by simpa using e)
   exact ⟨y,by simpa using h1,h2⟩
theorem scNF:FnScope ["fields","seen","name","low","high"] ["fields"] (defScope (top 18)):=⟨rfl,rfl,rfl,by decide +kernel,rfl,by decide +kernel,by decide +kernel⟩
theorem ok_needfields {f fI fN:Addr} {fd fdI fdN:FuncData} (F:Fun K "need_fields" "need_fields" (top 18) f fd) (T:Txt K mg) (TK':TxtK mg) (DI:Def K mg "is_name" (top 16) ["text"] fI fdI) (DN:Def K mg "need_name" (top 17) ["text"] fN fdN):FnOk P w K mg base CX0 3 f fd ["fields"] spNeedFields:=by
 have GN:FnOk P w K mg base CX0 2 fN fdN ["text"] spNeedName:=ok_needname DN.F T TK' DI
 refine F.ok scNF (fun vs H Q E h=>?_) (fun cdv A outer s H vs Q E hr h=>?_)
 ·obtain ⟨a,xs,fs,rfl,_⟩:=h
  rfl
 ·obtain ⟨a,xs,fs,rfl,ha,pf,hl,hf,nd,k⟩:=h
  obtain ⟨tl,ml⟩:=TK'.lim
  refine ⟨_,(pss_cons
 (ps_set (i:=1) scNF.nd rfl (Or.inl rfl) (pe_lst pa_nil))
 (pss_one
 (ps_for PassesOwn.never rfl (pi_tup (pv 0)) (pg_tup rfl (pgs_cons (pg_name (i:=2) scNF.nd rfl (Or.inl rfl)) (pgs_cons (pg_name (i:=3) scNF.nd rfl (Or.inl rfl)) (pgs_cons (pg_name (i:=4) scNF.nd rfl (Or.inl rfl)) pgs_nil))))
  (pss_cons (ps_expr (pe_call GN hr rfl DN.mg DN.F.kp DN.b .nil pass0 (pa_cons (pv 2) pa_nil)))
  (pss_cons (ps_if (pt_cmpR op_in_seq (pv 2) (pv 1) rfl) (pss_one ps_never) pss_nil)
  (pss_cons (ps_if (pt_not (pt_chain3 op_le op_le op_le (pe_un un_neg (pe_glob (v:=.int 999999) rfl ml ⟨_,rfl⟩)) (pv 3) (pv 4) (pe_glob (v:=.int 999999) rfl ml ⟨_,rfl⟩))) (pss_one ps_never) pss_nil)
  (pss_one (ps_expr (pe_bm PySem.F.plainAttrs_list PySem.F.slot_list_append PySem.F.type_list_append mt_append (pv 1) (pa_cons (pv 2) pa_nil)))))))))),?_⟩
  refine ⟨(show 0≤sizeLine by decide),fun q hq=>?_⟩
  have pl:=Paired.length pf
  have ha':∀ {H':Hp},Same H H'->H' a=some (.tup xs):=fun e=>e _ _ ha
  refine ⟨_,rfl,a,rfl,⟨_,SqT.of (ha' (Same.new hq))⟩,for_tup (K:=K) (a:=a) (xs:=xs) (fun i σ H1=>∃ (b c d:Option V),σ=[some (.ref a),some (.ref q),b,c,d]/\H1 q=some (.lst (((fs.map (·.1)).take i).map V.str))/\Same H H1)
   ⟨none,none,none,rfl,by rw [upd_same];simp,Same.new hq⟩ (fun i σ H1 _ ⟨_,_,_,_,_,e⟩=>SqT.of (ha' e)) ?_ ?_⟩
  ·rintro i x σ H1 hi ⟨b,c,d,rfl,e1,s1⟩
   obtain ⟨⟨n,lo,hi'⟩,hfi,b',rfl,hb⟩:=paired_at pf hi
   have fo:=hf _ (List.mem_of_getElem? hfi)
   have hil:i<fs.length:=(List.getElem?_eq_some_iff.mp hfi).1
   refine ⟨b',_,rfl,SqT.of (s1 _ _ hb),rfl,_,_,rfl,_,_,rfl,_,_,rfl,rfl,?_⟩
   refine ⟨_,rfl,n,rfl,fo.nm,?_⟩
   have hnot:n∉(fs.map (·.1)).take i:=by
    intro hm
    have h1:(fs.map (·.1))[i]?=some n:=by rw [List.getElem?_map,hfi];rfl
    obtain ⟨j,hj,e⟩:=List.getElem_of_mem hm
    rw [List.length_take] at hj
    rw [List.getElem_take] at e
    have h2:(fs.map (·.1))[j]?=some n:=by rw [List.getElem?_eq_getElem (by omega),e]
    have:=nodup_ix nd h1 h2
    omega
   refine ⟨_,rfl,_,rfl,q,_,rfl,.inl (SqL.of e1),rfl,?_,_,rfl,?_⟩
   ·rw [List.all_eq_true]
    intro v hv
    obtain ⟨y,_,rfl⟩:=List.mem_map.mp hv
    rfl
   refine ifF ?_ ?_
   ·show inV (.str n) _=false
    unfold inV
    rw [List.any_map,List.any_eq_false]
    intro y hy hy2
    have:y=n:=by simpa [eqV] using hy2
    exact hnot (this ▸ hy)
   have f1:=fo.lo
   have f2:=fo.le
   have f3:=fo.hi
   refine ⟨_,rfl,_,rfl,_,_,rfl,rfl,_,rfl,ifT (by simpa using f1) ?_⟩
   refine ⟨_,rfl,_,_,rfl,rfl,_,rfl,ifT (by simpa using f2) ?_⟩
   refine ⟨_,_,rfl,rfl,_,rfl,ifF (by simpa using f3) ?_⟩
   have lt:((fs.map (·.1)).take i).length≤60:=by rw [List.length_take,List.length_map];omega
   refine ⟨_,rfl,.inl ⟨rfl,_,SqL.of e1⟩,_,rfl,q,_,_,rfl,rfl,e1,by rw [List.length_map];exact small1000 (by omega),?_⟩
   refine ⟨_,_,_,rfl,?_,fun c o e=>by rw [upd_ne (ne_of_none e hq)];exact s1 c o e⟩
   rw [upd_same,List.take_add_one,List.getElem?_map,hfi]
   simp
  ·rintro σ H1 ⟨b,c,d,rfl,e1,s1⟩
   exact k H1 s1
end
structure FunD (K:PySem.W.Frag) (x qual:Str) (st:Stmt) (dV:Value) (f:Addr) (fd:FuncData):Prop where
 ex:∃ (oc:Value) (od:Option Addr) (kV doc pm:Value) (an:Option Addr) (cdv ct:Value) (osl:Array (Option Value)),
  fd=PySem.W.fnOf x qual (defArgs st) (defBody st) (defScope st) dV kV doc pm an cdv ct/\K.lookup f=some ⟨oc,od,.func fd,osl⟩/\PySem.W.codeIn K cdv qual=true
 kp:PySem.W.keepIn K (.ref f)=true
section
variable {P:Program} {w:World} {K:PySem.W.Frag} {mg:Str->Option Value} {base:Heap}
theorem FunD.ok {x qual:Str} {st:Stmt} {dV:Value} {f:Addr} {fd:FuncData} {N ps:List Str} {k:Nat} {sp:Sp} (F:FunD K x qual st dV f fd) (S:FnScope N ps (defScope st)) (len:∀ vs H Q E,sp vs H Q E->vs.length=ps.length)
 (hbody:∀ (cdv:Value) (A:Around) (outer:List Env) (s:Shared) (H:Hp) (vs:List V) (Q:VK) (E:XK),Room k (A.deeper (PyProof.Rows.envOfC qual (defScope st) s.heap.objs.size f cdv))->sp vs H Q E->
  ∃ t,PSs (cxOf CX0 P w K mg base N qual (defScope st) f cdv A outer s H E).nox (defBody st) t/\t { nx:=fun _ H'=>Q .non H',rt:=Q } (L2.start N vs) H):FnOk P w K mg base CX0 (k+1) f fd ps sp:=by
 obtain ⟨oc,od,kV,doc,pm,an,cdv,ct,osl,rfl,lk,hcd⟩:=F.ex
 refine fn_of lk hcd S len fun A outer s H vs Q E hr hsp=>?_
 obtain ⟨t,h,q⟩:=hbody cdv A outer s H vs Q E hr hsp
 exact ⟨t,h.nox,q⟩
theorem FunD.binds {x qual:Str} {st:Stmt} {f T:Addr} {fd:FuncData} {ps:List Str} {ds:List Value} {oT:Obj} {items:Array Value} {n:Nat} (F:FunD K x qual st (.ref T) f fd) (hT:K.lookup T=some oT) (hd:oT.data=.seq items n)
 (h:∀ (kV doc pm:Value) (an:Option Addr) (cdv ct:Value) (s:Shared) (us:List Value),s.heap.get? T=some oT->(us++ds).length=ps.length->BindsTo s (PySem.W.fnOf x qual (defArgs st) (defBody st) (defScope st) (.ref T) kV doc pm an cdv ct) ⟨us,[]⟩ (ps.zip (us++ds))):Binds K fd ps ds:=by
 obtain ⟨oc,od,kV,doc,pm,an,cdv,ct,osl,rfl,lk,hcd⟩:=F.ex
 exact fun s us X hl=>h kV doc pm an cdv ct s us (X _ _ hT) hl
abbrev sInit:Stmt:=inClass (top 20) 0
theorem bindInit {T:Addr} {oT:Obj} {d0:Value} {n:Nat} (hd:oT.data=.seq #[d0] n) (kV doc pm:Value) (an:Option Addr) (cdv ct:Value) (s:Shared) (us:List Value) (hT:s.heap.get? T=some oT) (h:(us++[]).length=(["self","name","fields"]:List Str).length) :
 BindsTo s (PySem.W.fnOf "__init__" "Kind.__init__" (defArgs sInit) (defBody sInit) (defScope sInit) (.ref T) kV doc pm an cdv ct) ⟨us,[]⟩ ((["self","name","fields"]:List Str).zip (us++[])):=by
 rw [List.append_nil] at h ⊢
 match us,h with
 |[a,b,c],_=>exact BindsTo.of_defaults rfl hT hd rfl rfl
structure KCls (K:PySem.W.Frag) (mg:Str->Option Value) (C:Addr):Prop where
 cl:Cls K C
 nN:NoAttr K C "name"
 nF:NoAttr K C "fields"
 mg:mg "Kind" = some (.ref C)
theorem nf:¬ (("name" : Str) = "fields"):=by decide +kernel
def kf (n:Str) (a:Addr):List (Str×V):=putF "fields" (.ref a) (putF "name" (.str n) [])
theorem kf_name (n:Str) (a:Addr):(kf n a).lookup ("name" : Str)=some (.str n):=by
 unfold kf
 rw [lookup_putF,if_neg nf,lookup_putF,if_pos rfl]
theorem kf_fields (n:Str) (a:Addr):(kf n a).lookup ("fields" : Str)=some (.ref a):=by
 unfold kf
 rw [lookup_putF,if_pos rfl]
theorem kf_no (n:Str) (a:Addr) {m:Str} (h1:¬ m = "fields") (h2:¬ m = "name"):(kf n a).lookup m=none:=by
 unfold kf
 rw [lookup_putF,if_neg h1,lookup_putF,if_neg h2]
 rfl
structure KindAt (C:Addr) (H:Hp) (o:Addr) (n:Str) (a:Addr) (fs:List Fld):Prop where
 ob:∃ dx,H o=some (.ins C dx (kf n a))
 tp:∃ xs,H a=some (.tup xs)/\Paired (FldAt H) xs fs
def spInit (C:Addr):Sp:=fun vs H Q _=>∃ (o dx a:Addr) (n:Str) (xs:List V) (fs:List Fld),vs=[.ref o,.str n,.ref a]/\H o=some (.ins C dx [])/\Nm n/\H a=some (.tup xs)/\Paired (FldAt H) xs fs/\fs.length≤4/\(∀ f∈fs,FldOk f)/\(fs.map (·.1)).Nodup/\
 ∀ H',KindAt C H' o n a fs->(∀ b u,H b=some u->b≠o->H' b=some u)->Q .non H'
theorem scKI:FnScope ["self","name","fields"] ["self","name","fields"] (defScope sInit):=⟨rfl,rfl,rfl,by decide +kernel,rfl,by decide +kernel,by decide +kernel⟩
theorem ok_init {C f fI fN fF:Addr} {fd fdI fdN fdF:FuncData} {dV:Value} (F:FunD K "__init__" "Kind.__init__" sInit dV f fd) (T:Txt K mg) (TK':TxtK mg) (KC:KCls K mg C) (DI:Def K mg "is_name" (top 16) ["text"] fI fdI) (DN:Def K mg "need_name" (top 17) ["text"] fN fdN)
 (DF:Def K mg "need_fields" (top 18) ["fields"] fF fdF):FnOk P w K mg base CX0 4 f fd ["self","name","fields"] (spInit C):=by
 have GN:FnOk P w K mg base CX0 2 fN fdN ["text"] spNeedName:=ok_needname DN.F T TK' DI
 have GF:FnOk P w K mg base CX0 3 fF fdF ["fields"] spNeedFields:=ok_needfields DF.F T TK' DI DN
 refine F.ok scKI (fun vs H Q E h=>?_) (fun cdv A outer s H vs Q E hr h=>?_)
 ·obtain ⟨o,dx,a,n,xs,fs,rfl,_⟩:=h
  rfl
 ·obtain ⟨o,dx,a,n,xs,fs,rfl,ho,hn,ha,pf,hl,hf,nd,k⟩:=h
  obtain ⟨tf,mf⟩:=TK'.mf
  have hr2:Room 2 _:=hr.mono (by decide)
  have pl:=Paired.length pf
  refine ⟨_,(pss_cons
 (ps_expr (pe_call GN hr2 rfl DN.mg DN.F.kp DN.b .nil pass0 (pa_cons (pv 1) pa_nil)))
 (pss_cons
 (ps_if (pt_cmpR op_gt (pe_callB call_len_seq (by rfl) T.len bt_len (pa_cons (pv 2) pa_nil)) (pe_glob (v:=.int 4) rfl mf ⟨_,rfl⟩) (nomark _)) (pss_one ps_never) pss_nil)
 (pss_cons
 (ps_expr (pe_call GF hr rfl DF.mg DF.F.kp DF.b .nil pass0 (pa_cons (pv 2) pa_nil)))
 (pss_cons
 (ps_fld (pv 0) (pv 1) rfl)
 (pss_one
 (ps_fld (pv 0) (pe_callTy call_tuple_of (by rfl) T.tuple bt_tuple (pa_cons (pv 2) pa_nil)) rfl)))))),?_⟩
  refine ⟨_,rfl,n,rfl,hn,?_⟩
  refine ⟨_,rfl,a,xs,rfl,.inr (SqT.of ha),_,_,rfl,rfl,_,rfl,ifF (by simp;omega) ?_⟩
  refine ⟨_,rfl,a,xs,fs,rfl,ha,pf,by omega,hf,nd,fun H1 s1=>?_⟩
  refine ⟨_,rfl,_,rfl,o,C,dx,[],rfl,s1 _ _ ho,KC.cl,KC.nN,(show 0<1000 by decide),?_⟩
  have nao:a≠o:=ne_of ha ho (by intro z;cases z)
  have ha1:∀ u,(upd H1 o u) a=some (.tup xs):=fun u=>by rw [upd_ne nao];exact s1 _ _ ha
  refine ⟨_,rfl,a,xs,rfl,.inr ⟨SqT.of (ha1 _),?_⟩⟩
  refine ⟨_,rfl,o,C,dx,_,rfl,upd_same,KC.cl,KC.nF,(show 1<1000 by decide),?_⟩
  have keep:∀ b u,H b=some u->b≠o->(upd (upd H1 o (.ins C dx (putF "name" (.str n) []))) o (.ins C dx (kf n a))) b=some u:=fun b u e hb=>by
   rw [upd_ne hb,upd_ne hb];exact s1 _ _ e
  refine k _ ⟨⟨dx,upd_same⟩,xs,keep a _ ha nao,flds_tk pf fun b ys e=>keep b _ e (ne_of e ho (by intro z;cases z))⟩ keep
end
def gFld (K:PySem.W.Frag):TG:=gTup K 3 (gCons (gName 0) (gCons (gName 1) (gCons (gName 2) gNil)))
theorem comp_flds {K:PySem.W.Frag} {H:Hp} {a:Addr} {xs:List V} {fs:List Fld} {te:TE} {F:List V->Hp->Prop} {σ0:St} (ha:H a=some (.tup xs)) (pf:Paired (FldAt H) xs fs) (hl:fs.length≤60) (h0:σ0=[none,none,none]) (out:Fld->V)
 (hte:∀ f∈fs,∀ Q:VK,Q (out f) H->te [some (.str f.1),some (.int f.2.1),some (.int f.2.2)] H Q) (hF:F (fs.map out) H) :
 ∃ W:Nat->Nat->List V->St->Hp->Prop,(∃ m,W 0 m [] σ0 H)/\CTurn (Itt K a) (gFld K) tYes te F W:=by
 have pl:=Paired.length pf
 refine comp_tup (xs:=xs) (fun i ys σ H'=>ys=(fs.take i).map out/\(∃ u v w,σ=[u,v,w])/\H'=H) (Nat.le_trans (by omega) (show 60≤sizeLine by decide)) ⟨by simp,⟨_,_,_,h0⟩,rfl⟩ ?_ ?_ ?_
 ·rintro i ys σ H' _ ⟨_,_,rfl⟩
  exact SqT.of ha
 ·rintro i x ys σ H' hx hys ⟨rfl,⟨u,v,w,rfl⟩,rfl⟩ N hN
  obtain ⟨f,hf,b,rfl,hb⟩:=paired_at pf hx
  refine ⟨b,_,rfl,SqT.of hb,rfl,_,_,rfl,_,_,rfl,_,_,rfl,rfl,?_⟩
  refine hte f (List.mem_of_getElem? hf) _ (hN _ _ _ (by simpa using hys) ⟨?_,⟨_,_,_,rfl⟩,rfl⟩)
  rw [List.take_add_one,hf]
  simp
 ·rintro ys σ H' hys ⟨rfl,_,rfl⟩
  rw [List.take_of_length_le (by omega)]
  exact hF
def fldT (f:Fld):Str:=((((f.1++(" " : Str))++Str.ofString (toString f.2.1))++(".." : Str))++Str.ofString (toString f.2.2))
def boundsT (fs:List Fld):Str:=Txt.join (", " : Str) (fs.map fldT)
theorem num_len {i:Int} (h1:-999999≤i) (h2:i≤999999):(Str.ofString (toString i)).length≤8/\i.natAbs.log2<1920:=by
 constructor
 ·have:=int_text_length_le10 (a:=i) (k:=6) (by decide) (by omega)
  have e:(Str.ofString (toString i)).length=(toString i).length:=ofString_length _
  omega
 ·have h3:i.natAbs<2 ^ 20:=by omega
  by_cases h0:i.natAbs=0
  ·rw [h0];decide
  ·exact Nat.lt_trans ((Nat.log2_lt h0).mpr h3) (by decide)
theorem fldT_len {f:Fld} (h:FldOk f):(fldT f).length≤40:=by
 have h1:=(num_len h.lo (Int.le_trans h.le h.hi)).1
 have h2:=(num_len (Int.le_trans h.lo h.le) h.hi).1
 have h3:=h.nm.hi
 have e1:((" " : Str)).length=1:=rfl
 have e2:((".." : Str)).length=2:=rfl
 unfold fldT
 simp only [Str.length_append,e1,e2]
 omega
section
variable {P:Program} {w:World} {K:PySem.W.Frag} {mg:Str->Option Value} {base:Heap}
def spBounds:Sp:=fun vs H Q _=>∃ (a:Addr) (xs:List V) (fs:List Fld),vs=[.ref a]/\H a=some (.tup xs)/\Paired (FldAt H) xs fs/\fs.length≤4/\(∀ f∈fs,FldOk f)/\∀ H',Same H H'->Q (.str (boundsT fs)) H'
theorem scBT:FnScope ["fields"] ["fields"] (defScope (top 19)):=⟨rfl,rfl,rfl,by decide +kernel,rfl,by decide +kernel,by decide +kernel⟩
theorem nd3:List.Nodup (["name","low","high"]:List Str):=by decide +kernel
theorem ok_bounds {f:Addr} {fd:FuncData} (F:Fun K "bounds_text" "bounds_text" (top 19) f fd) (T:Txt K mg):FnOk P w K mg base CX0 1 f fd ["fields"] spBounds:=by
 refine F.ok scBT (fun vs H Q E h=>?_) (fun cdv A outer s H vs Q E hr h=>?_)
 ·obtain ⟨a,xs,fs,rfl,_⟩:=h
  rfl
 ·obtain ⟨a,xs,fs,rfl,ha,pf,hl,hf,k⟩:=h
  refine ⟨_,(pss_one
 (ps_ret (pe_bm PySem.F.plainAttrs_str PySem.F.slot_str_join PySem.F.type_str_join mt_join pe_str (pa_cons (pe_comp (g:=gFld K) (own:=["name","low","high"]) (js:=[]) (N':=["name","low","high"]) (CompScope.of (osc:=defScope (top 19)) (N:=["fields"]) rfl rfl ⟨rfl,by decide +kernel,by decide +kernel,by decide +kernel,rfl,by decide +kernel⟩) rfl (pi_tup (pv 0)) (fun _ _ _ _ _=>(pg_tup rfl (pgs_cons (pg_name (i:=0) nd3 rfl (Or.inl rfl) (Or.inr rfl)) (pgs_cons (pg_name (i:=1) nd3 rfl (Or.inl rfl) (Or.inr rfl)) (pgs_cons (pg_name (i:=2) nd3 rfl (Or.inl rfl) (Or.inr rfl)) pgs_nil))))) (fun _ _ _ _ _=>pifs_nil) (fun _ _ _ _ _=>(pe_fstr (pf_val (pv 0) (pf_txt (pf_val (pv 1) (pf_txt (pf_val (pv 2) pf_nil)))))))) pa_nil)))),?_⟩
  refine ⟨rfl,_,rfl,a,rfl,⟨xs,SqT.of ha⟩,comp_flds ha pf (by omega) rfl (fun f=>.str (fldT f)) (fun f hfm Q q=>?_) ?_⟩
  ·have fo:=hf f hfm
   have l1:=num_len fo.lo (Int.le_trans fo.le fo.hi)
   have l2:=num_len (Int.le_trans fo.lo fo.le) fo.hi
   have l3:=fo.nm.hi
   have l4:=fldT_len fo
   have big:40≤sizeLine:=by decide
   have e1:((" " : Str)).length=1:=rfl
   have e2:((".." : Str)).length=2:=rfl
   refine ⟨_,rfl,f.1,.inl ⟨rfl,by omega⟩,?_,?_,_,rfl,_,.inr ⟨_,rfl,l1.2,rfl⟩,?_,?_,_,rfl,_,.inr ⟨_,rfl,l2.2,rfl⟩,?_,?_,?_⟩
   all_goals (try rw [Str.empty_append])
   all_goals (try (first|omega|(simp only [Str.length_append,e1,e2];omega)))
   exact q
  ·have hl60:fs.length≤sizeLine:=Nat.le_trans hl (by decide)
   refine ⟨by rw [List.length_map];exact hl60,fun q hq=>?_⟩
   have hsum:((fs.map fldT).map (·.length)).sum≤fs.length*40:=by
    clear hl60 pf ha k hl
    induction fs with
    |nil=>simp
    | cons f r ih=>
      rw [List.map_cons,List.map_cons,List.sum_cons,List.length_cons,Nat.succ_mul]
      have:=fldT_len (hf f (by simp))
      have:=ih fun g hg=>hf g (by simp [hg])
      omega
   have e1:(", " : Str).length=2:=rfl
   refine ⟨_,q,fs.map fldT,rfl,rfl,SqL.of (by rw [upd_same,List.map_map];rfl),?_,k _ (Same.new hq)⟩
   rw [List.length_map,e1]
   have:fs.length*40≤4*40:=Nat.mul_le_mul_right _ hl
   omega
abbrev kM (j:Nat):Stmt:=inClass (top 20) j
def spLowest (C:Addr):Sp:=fun vs H Q _=>∃ (o a:Addr) (n:Str) (fs:List Fld),vs=[.ref o]/\KindAt C H o n a fs/\fs.length≤4/\∀ p H',H' p=some (.tup (fs.map fun f=>.int f.2.1))->Same H H'->Q (.ref p) H'
theorem scL:FnScope ["self"] ["self"] (defScope (kM 1)):=⟨rfl,rfl,rfl,by decide +kernel,rfl,by decide +kernel,by decide +kernel⟩
theorem ok_lowest {C f:Addr} {fd:FuncData} (F:Fun K "lowest" "Kind.lowest" (kM 1) f fd) (T:Txt K mg) (KC:KCls K mg C):FnOk P w K mg base CX0 1 f fd ["self"] (spLowest C):=by
 refine F.ok scL (fun vs H Q E h=>?_) (fun cdv A outer s H vs Q E hr h=>?_)
 ·obtain ⟨o,a,n,fs,rfl,_⟩:=h
  rfl
 ·obtain ⟨o,a,n,fs,rfl,⟨⟨dx,ho⟩,xs,ha,pf⟩,hl,k⟩:=h
  refine ⟨_,(pss_one
 (ps_ret (pe_callTy call_tuple_of (by rfl) T.tuple bt_tuple (pa_cons (pe_comp (g:=gFld K) (own:=["name","low","high"]) (js:=[]) (N':=["name","low","high"]) (CompScope.of (osc:=defScope (kM 1)) (N:=["self"]) rfl rfl ⟨rfl,by decide +kernel,by decide +kernel,by decide +kernel,rfl,by decide +kernel⟩) rfl (pi_tup (pe_fld (pv 0) rfl)) (fun _ _ _ _ _=>(pg_tup rfl (pgs_cons (pg_name (i:=0) nd3 rfl (Or.inl rfl) (Or.inr rfl)) (pgs_cons (pg_name (i:=1) nd3 rfl (Or.inl rfl) (Or.inr rfl)) (pgs_cons (pg_name (i:=2) nd3 rfl (Or.inl rfl) (Or.inr rfl)) pgs_nil))))) (fun _ _ _ _ _=>pifs_nil) (fun _ _ _ _ _=>(pv 1))) pa_nil)))),?_⟩
  refine ⟨_,rfl,o,C,dx,_,_,rfl,ho,KC.cl,KC.nF,kf_fields n a,a,rfl,⟨xs,SqT.of ha⟩,comp_flds ha pf (by omega) rfl (fun f=>.int f.2.1) (fun f _ Q q=>⟨_,rfl,q⟩) ?_⟩
  refine ⟨by rw [List.length_map];exact Nat.le_trans hl (by decide),fun q hq=>?_⟩
  exact ⟨q,_,rfl,.inl ⟨SqL.of upd_same,fun l hn=>k l _ upd_same ((Same.new hq).trans (Same.new hn))⟩⟩
def spCells (C:Addr):Sp:=fun vs H Q _=>∃ (o a:Addr) (n:Str) (fs:List Fld),vs=[.ref o]/\KindAt C H o n a fs/\Q (.int (1+fs.length)) H
theorem scCe:FnScope ["self"] ["self"] (defScope (kM 2)):=⟨rfl,rfl,rfl,by decide +kernel,rfl,by decide +kernel,by decide +kernel⟩
theorem ok_cells {C f:Addr} {fd:FuncData} (F:Fun K "cells" "Kind.cells" (kM 2) f fd) (T:Txt K mg) (KC:KCls K mg C):FnOk P w K mg base CX0 1 f fd ["self"] (spCells C):=by
 refine F.ok scCe (fun vs H Q E h=>?_) (fun cdv A outer s H vs Q E hr h=>?_)
 ·obtain ⟨o,a,n,fs,rfl,_⟩:=h
  rfl
 ·obtain ⟨o,a,n,fs,rfl,⟨⟨dx,ho⟩,xs,ha,pf⟩,k⟩:=h
  refine ⟨_,(pss_one (ps_ret (pe_op op_add pe_int (pe_callB call_len_seq (by rfl) T.len bt_len (pa_cons (pe_fld (pv 0) rfl) pa_nil))))),?_⟩
  refine ⟨_,rfl,o,C,dx,_,_,rfl,ho,KC.cl,KC.nF,kf_fields n a,a,xs,rfl,.inr (SqT.of ha),_,_,rfl,rfl,?_⟩
  rw [Paired.length pf]
  exact k
end
end Cm
namespace Cm
open PySem L2 PySem.W
inductive Pd {α β:Type} (R:α->β->Prop):List α->List β->Prop
 |nil:Pd R [] []
 |cons {x:α} {y:β} {xs:List α} {ys:List β}:R x y->Pd R xs ys->Pd R (x::xs) (y::ys)
section
variable {α β:Type} {R R':α->β->Prop}
theorem Pd.map (h:∀ x y,R x y->R' x y):∀ {xs:List α} {ys:List β},Pd R xs ys->Pd R' xs ys
 |_,_,.nil=>.nil
 |_,_,.cons r t=>.cons (h _ _ r) (Pd.map h t)
theorem Pd.mapM:∀ {xs:List α} {ys:List β},(∀ x∈xs,∀ y,R x y->R' x y)->Pd R xs ys->Pd R' xs ys
 |_,_,_,.nil=>.nil
 |_,_,h,.cons r t=>.cons (h _ (List.mem_cons_self ..) _ r) (Pd.mapM (fun x m=>h x (List.mem_cons_of_mem _ m)) t)
theorem Pd.len:∀ {xs:List α} {ys:List β},Pd R xs ys->xs.length=ys.length
 |_,_,.nil=>rfl
 |_,_,.cons _ t=>by rw [List.length_cons,List.length_cons,t.len]
theorem Pd.at:∀ {xs:List α} {ys:List β} {i:Nat} {x:α},Pd R xs ys->xs[i]?=some x->∃ y,ys[i]?=some y/\R x y
 |_,_,_,_,.nil,e=>by simp at e
 |_,_,0,_,.cons r _,e=>by simp at e;subst e;exact ⟨_,rfl,r⟩
 | _,_,i+1,_,.cons _ t,e=>by
   obtain ⟨y,h1,h2⟩:=Pd.at (i:=i) t (by simpa using e)
   exact ⟨y,by simpa using h1,h2⟩
theorem Pd.at':∀ {xs:List α} {ys:List β} {i:Nat} {y:β},Pd R xs ys->ys[i]?=some y->∃ x,xs[i]?=some x/\R x y
 |_,_,_,_,.nil,e=>by simp at e
 |_,_,0,_,.cons r _,e=>by simp at e;subst e;exact ⟨_,rfl,r⟩
 | _,_,i+1,_,.cons _ t,e=>by
   obtain ⟨y,h1,h2⟩:=Pd.at' (i:=i) t (by simpa using e)
   exact ⟨y,by simpa using h1,h2⟩
theorem Pd.app {us:List α} {vs:List β} (h:Pd R us vs):∀ {xs:List α} {ys:List β},Pd R xs ys->Pd R (xs++us) (ys++vs)
 |_,_,.nil=>h
 |_,_,.cons r t=>.cons r (Pd.app h t)
theorem Pd.erase:∀ {xs:List α} {ys:List β} (i:Nat),Pd R xs ys->Pd R (xs.eraseIdx i) (ys.eraseIdx i)
 |_,_,_,.nil=>.nil
 |_,_,0,.cons _ t=>t
 |_,_,i+1,.cons r t=>.cons r (t.erase i)
theorem Pd.setM {x:α} {y:β} (h:R' x y):∀ {xs:List α} {ys:List β} (i:Nat),(∀ j u v,j≠i->xs[j]?=some u->R u v->R' u v)->Pd R xs ys->Pd R' (xs.set i x) (ys.set i y)
 |_,_,_,_,.nil=>.nil
 |_,_,0,k,.cons r t=>.cons h (Pd.mapM (fun u m v q=>by
  obtain ⟨j,hj⟩:=List.mem_iff_getElem?.mp m
  exact k (j+1) u v (by omega) (by simpa using hj) q) t)
 |_,_,i+1,k,.cons r t=>.cons (k 0 _ _ (by omega) rfl r) (Pd.setM h i (fun j u v ne e q=>k (j+1) u v (by omega) (by simpa using e) q) t)
end
structure Cl where
 tk:Int
 tm:Int
 nm:Str
 fi:List Fld
 vs:List Int
 gv:Bool
structure Pg where
 cs:List Cl
 us:Int
 go:Int
structure Ln where
 pg:List Pg
 most:Int
 room:Int
 over:Bool
 held:Bool
 told:Int
 last:Option Int
 tks:Int
 giv:Int
 thr:Int
 los:Int
 mis:Int
structure LC where
 k:Addr
 c:Addr
 p:Addr
 l:Addr
structure LC.Ok (Z:LC):Prop where
 kc:Z.k≠Z.c
 kp:Z.k≠Z.p
 kl:Z.k≠Z.l
 cp:Z.c≠Z.p
 cl:Z.c≠Z.l
 pl:Z.p≠Z.l
structure PA where
 p:Addr
 l:Addr
 cs:List Addr
structure LA where
 a:Addr
 lp:Addr
 ps:List PA
def LA.ls (k:LA):List Addr:=k.lp::k.ps.map (·.l)
def LA.cs (k:LA):List Addr:=k.ps.flatMap (·.cs)
def clF (m:Cl) (k t:Addr):List (Str×V):=[("ticket",.int m.tk),("time",.int m.tm),("form",.ref k),("filled",.ref t),("given",.bl m.gv)]
def pgF (l:Addr) (m:Pg):List (Str×V):=[("claims",.ref l),("used",.int m.us),("gone",.int m.go)]
def inO:Option Int->V
 |none=>.non
 |some i=>.int i
def lnF (lp:Addr) (n:Ln):List (Str×V):=[("most",.int n.most),("room",.int n.room),("over",.bl n.over),("pages",.ref lp),("held",.bl n.held),("told",.int n.told),("last_time",inO n.last),("tickets",.int n.tks),("given_in",.int n.giv),("thrown_back",.int n.thr),("lost",.int n.los),("missed",.int n.mis)]
structure ClAt (Z:LC) (H:Hp) (c:Addr) (m:Cl):Prop where
 ex:∃ dx k a t,H c=some (.ins Z.c dx (clF m k t))/\KindAt Z.k H k m.nm a m.fi/\H t=some (.tup (m.vs.map V.int))
structure PgAt (Z:LC) (H:Hp) (s:PA) (m:Pg):Prop where
 ob:∃ dx,H s.p=some (.ins Z.p dx (pgF s.l m))
 ls:H s.l=some (.lst (s.cs.map V.ref))
 cs:Pd (ClAt Z H) s.cs m.cs
structure LnAt (Z:LC) (H:Hp) (k:LA) (n:Ln):Prop where
 ob:∃ dx,H k.a=some (.ins Z.l dx (lnF k.lp n))
 ls:H k.lp=some (.lst (k.ps.map fun s=>V.ref s.p))
 pg:Pd (PgAt Z H) k.ps n.pg
 n1:(k.ps.map (·.p)).Nodup
 n2:k.ls.Nodup
 n3:k.cs.Nodup
def Plain (Z:LC) (o:HO):Prop:=∀ C dx fs,o=.ins C dx fs->C≠Z.c/\C≠Z.p/\C≠Z.l
structure Kt (Z:LC) (H H':Hp):Prop where
 tk:TK H H'
 kd:∀ b dx fs,H b=some (.ins Z.k dx fs)->H' b=some (.ins Z.k dx fs)
section
variable {Z:LC} {H H' H'':Hp}
theorem Same.kt (s:Same H H'):Kt Z H H':=⟨fun b xs e=>s _ _ e,fun b dx fs e=>s _ _ e⟩
theorem Kt.lst {q:Addr} {xs:List V} {o:HO} (h:H q=some (.lst xs)):Kt Z H (upd H q o):=
 ⟨TK.lst h,fun c dx fs e=>by rw [upd_ne (ne_of e h (by intro z;cases z))];exact e⟩
theorem Kt.ins {q C dx:Addr} {fs:List (Str×V)} {o:HO} (h:H q=some (.ins C dx fs)) (ne:Z.k≠C):Kt Z H (upd H q o):=
 ⟨fun c xs e=>by rw [upd_ne (ne_of e h (by intro z;cases z))];exact e,fun c dx' fs' e=>by rw [upd_ne (fun z=>by subst z;rw [h] at e;cases e;exact ne rfl)];exact e⟩
theorem KindAt.kt {k a:Addr} {nm:Str} {fi:List Fld} (h:KindAt Z.k H k nm a fi) (q:Kt Z H H'):KindAt Z.k H' k nm a fi:=by
 obtain ⟨⟨dx,e⟩,xs,e1,pf⟩:=h
 exact ⟨⟨dx,q.kd _ _ _ e⟩,xs,q.tk _ _ e1,flds_tk pf q.tk⟩
theorem ClAt.kt {c:Addr} {m:Cl} (h:ClAt Z H c m) (q:Kt Z H H') (s:H' c=H c):ClAt Z H' c m:=by
 obtain ⟨dx,k,a,t,e1,e2,e3⟩:=h.ex
 exact ⟨dx,k,a,t,by rw [s];exact e1,e2.kt q,q.tk _ _ e3⟩
theorem PgAt.kt {s:PA} {m:Pg} (h:PgAt Z H s m) (q:Kt Z H H') (s1:H' s.p=H s.p) (s2:H' s.l=H s.l) (s3:∀ c∈s.cs,H' c=H c):PgAt Z H' s m:=
 ⟨by rw [s1];exact h.ob,by rw [s2];exact h.ls,Pd.mapM (fun c mc y r=>r.kt q (s3 c mc)) h.cs⟩
theorem ClAt.same {c:Addr} {m:Cl} (h:ClAt Z H c m) (s:Same H H'):ClAt Z H' c m:=by
 obtain ⟨dx,k,a,t,e1,_⟩:=h.ex
 exact h.kt (Same.kt s) (by rw [e1];exact s _ _ e1)
theorem PgAt.same {s:PA} {m:Pg} (h:PgAt Z H s m) (e:Same H H'):PgAt Z H' s m:=by
 obtain ⟨dx,e1⟩:=h.ob
 exact ⟨⟨dx,e _ _ e1⟩,e _ _ h.ls,h.cs.map fun _ _ r=>r.same e⟩
theorem LnAt.same {k:LA} {n:Ln} (h:LnAt Z H k n) (e:Same H H'):LnAt Z H' k n:=by
 obtain ⟨dx,e1⟩:=h.ob
 exact ⟨⟨dx,e _ _ e1⟩,e _ _ h.ls,h.pg.map fun _ _ r=>r.same e,h.n1,h.n2,h.n3⟩
def LA.own (k:LA):List Addr:=k.a::(k.ps.map (·.p)++k.cs)
theorem LA.a_own {k:LA}:k.a∈k.own:=List.mem_cons_self ..
theorem LA.p_own {k:LA} {i:Nat} {s:PA} (h:k.ps[i]?=some s):s.p∈k.own:=List.mem_cons_of_mem _ (List.mem_append.mpr (.inl (List.mem_map.mpr ⟨s,List.mem_of_getElem? h,rfl⟩)))
theorem LA.c_own {k:LA} {c:Addr} (h:c∈k.cs):c∈k.own:=List.mem_cons_of_mem _ (List.mem_append.mpr (.inr h))
structure Mv (Z:LC) (k:LA) (H:Hp) (k':LA) (H':Hp):Prop where
 out:∀ b o,H b=some o->b∉k.ls->Plain Z o->H' b=some o
 fr:∀ l∈k'.ls,l∈k.ls∨H l=none
 gr:∀ b,H' b=none->H b=none
 a:k'.a=k.a
 lp:k'.lp=k.lp
 oth:∀ b o,H b=some o->b∉k.own->b∉k.ls->H' b=some o
 fro:∀ b∈k'.own,b∈k.own∨H b=none
theorem Mv.refl {k:LA}:Mv Z k H k H:=⟨fun _ _ e _ _=>e,fun _ m=>.inl m,fun _ e=>e,rfl,rfl,fun _ _ e _ _=>e,fun _ m=>.inl m⟩
theorem gr_same (s:Same H H') {b:Addr} (e:H' b=none):H b=none:=by
 cases h:H b with
 |none=>rfl
 |some o=>rw [s _ _ h] at e;cases e
theorem Mv.same {k:LA} (s:Same H H'):Mv Z k H k H':=⟨fun _ _ e _ _=>s _ _ e,fun _ m=>.inl m,fun b e=>gr_same s e,rfl,rfl,fun _ _ e _ _=>s _ _ e,fun _ m=>.inl m⟩
theorem Mv.trans {k k' k'':LA} (a:Mv Z k H k' H') (b:Mv Z k' H' k'' H''):Mv Z k H k'' H'':=by
 have frl:∀ c o,H c=some o->c∉k.ls->c∉k'.ls:=fun c o e n m=>by
  rcases a.fr c m with h|h
  ·exact n h
  ·rw [e] at h;cases h
 refine ⟨fun c o e n p=>b.out c o (a.out c o e n p) (frl c o e n) p,fun l m=>?_,fun c e=>a.gr c (b.gr c e),b.a.trans a.a,b.lp.trans a.lp,fun c o e n1 n2=>b.oth c o (a.oth c o e n1 n2) (fun m=>?_) (frl c o e n2),fun c m=>?_⟩
 ·rcases b.fr l m with h|h
  ·exact a.fr l h
  ·exact .inr (a.gr l h)
 ·rcases a.fro c m with h|h
  ·exact n1 h
  ·rw [e] at h;cases h
 ·rcases b.fro c m with h|h
  ·exact a.fro c h
  ·exact .inr (a.gr c h)
theorem ne_ls {k:LA} {n:Ln} {b C dx:Addr} {fs:List (Str×V)} (h:LnAt Z H k n) (e:H b=some (.ins C dx fs)):b∉k.ls:=by
 intro m
 rcases List.mem_cons.mp m with rfl|m
 ·have:=h.ls;rw [e] at this;cases this
 ·obtain ⟨s,ms,rfl⟩:=List.mem_map.mp m
  obtain ⟨i,hi⟩:=List.mem_iff_getElem?.mp ms
  obtain ⟨y,_,r⟩:=h.pg.at hi
  have:=r.ls;rw [e] at this;cases this
theorem gr_upd {b c:Addr} {o u:HO} (h:H b=some u) (e:upd H b o c=none):H c=none:=by
 by_cases z:c=b
 ·subst z;rw [upd_same] at e;cases e
 ·rw [upd_ne z] at e;exact e
theorem Mv.ins {k:LA} {b C dx:Addr} {fs:List (Str×V)} {o:HO} (e:H b=some (.ins C dx fs)) (hc:C=Z.c∨C=Z.p∨C=Z.l) (hb:b∈k.own):Mv Z k H k (upd H b o):=by
 refine ⟨fun c u eu _ p=>?_,fun _ m=>.inl m,fun c h=>gr_upd e h,rfl,rfl,fun c u eu n1 _=>by rw [upd_ne (fun z=>n1 (by rw [z];exact hb))];exact eu,fun _ m=>.inl m⟩
 rw [upd_ne (fun z=>by
  subst z
  rw [e] at eu
  cases eu
  have:=p C dx fs rfl
  rcases hc with h|h|h
  ·exact this.1 h
  ·exact this.2.1 h
  ·exact this.2.2 h)]
 exact eu
theorem Mv.lst {k k':LA} {b:Addr} {xs:List V} {o:HO} (e:H b=some (.lst xs)) (hb:b∈k.ls) (ha:k'.a=k.a) (hf:∀ l∈k'.ls,l∈k.ls∨H l=none) (ho:∀ c∈k'.own,c∈k.own∨H c=none) (hlp:k'.lp=k.lp:=by rfl):Mv Z k H k' (upd H b o):=
 ⟨fun c u eu n p=>by rw [upd_ne (fun z=>by subst z;exact n hb)];exact eu,hf,fun c h=>gr_upd e h,ha,hlp,fun c u eu _ n2=>by rw [upd_ne (fun z=>n2 (by rw [z];exact hb))];exact eu,ho⟩
theorem Mv.lstN {H1:Hp} {k k':LA} {b:Addr} {xs:List V} {o:HO} (s:Same H H1) (e:H1 b=some (.lst xs)) (hb:b∈k.ls) (ha:k'.a=k.a) (hf:∀ l∈k'.ls,l∈k.ls∨H l=none) (ho:∀ c∈k'.own,c∈k.own∨H c=none) (hlp:k'.lp=k.lp:=by rfl):Mv Z k H k' (upd H1 b o):=
 ⟨fun c u eu n p=>by rw [upd_ne (fun z=>by subst z;exact n hb)];exact s _ _ eu,hf,fun c h=>gr_same s (gr_upd e h),ha,hlp,fun c u eu _ n2=>by rw [upd_ne (fun z=>n2 (by rw [z];exact hb))];exact s _ _ eu,ho⟩
end
section
variable {Z:LC} {H:Hp}
theorem ClAt.ins {c:Addr} {m:Cl} (h:ClAt Z H c m):∃ dx fs,H c=some (.ins Z.c dx fs):=by
 obtain ⟨dx,k,a,t,e,_⟩:=h.ex
 exact ⟨dx,_,e⟩
theorem ClAt.upd {c b:Addr} {m:Cl} {o:HO} (h:ClAt Z H c m) (q:Kt Z H (upd H b o)) (ne:c≠b):ClAt Z (upd H b o) c m:=h.kt q (upd_ne ne)
theorem PgAt.updP (zo:Z.Ok) {s:PA} {m:Pg} {b dx:Addr} {fs:List (Str×V)} {o:HO} (h:PgAt Z H s m) (e:H b=some (.ins Z.p dx fs)) (ne:s.p≠b):PgAt Z (upd H b o) s m:=
 h.kt (Kt.ins e zo.kp) (upd_ne ne) (upd_ne (fun z=>by have:=h.ls;rw [z,e] at this;cases this)) fun c mc=>upd_ne fun z=>by
  obtain ⟨i,hi⟩:=List.mem_iff_getElem?.mp mc
  obtain ⟨y,_,r⟩:=h.cs.at hi
  obtain ⟨dx',fs',e'⟩:=r.ins
  rw [z,e] at e'
  injection e' with e'
  injection e' with e'
  exact zo.cp e'.symm
theorem PgAt.updN (zo:Z.Ok) {s:PA} {m:Pg} {b dx:Addr} {fs:List (Str×V)} {o:HO} (h:PgAt Z H s m) (e:H b=some (.ins Z.l dx fs)):PgAt Z (upd H b o) s m:=
 h.kt (Kt.ins e zo.kl) (upd_ne (fun z=>by
  obtain ⟨dx',e'⟩:=h.ob
  rw [z,e] at e'
  injection e' with e'
  injection e' with e'
  exact zo.pl e'.symm)) (upd_ne (fun z=>by have:=h.ls;rw [z,e] at this;cases this)) fun c mc=>upd_ne fun z=>by
  obtain ⟨i,hi⟩:=List.mem_iff_getElem?.mp mc
  obtain ⟨y,_,r⟩:=h.cs.at hi
  obtain ⟨dx',fs',e'⟩:=r.ins
  rw [z,e] at e'
  injection e' with e'
  injection e' with e'
  exact zo.cl e'.symm
theorem PgAt.updL {s:PA} {m:Pg} {b:Addr} {xs:List V} {o:HO} (h:PgAt Z H s m) (e:H b=some (.lst xs)) (ne:s.l≠b):PgAt Z (upd H b o) s m:=
 h.kt (Kt.lst e) (upd_ne (fun z=>by
  obtain ⟨dx',e'⟩:=h.ob
  rw [z,e] at e'
  cases e')) (upd_ne ne) fun c mc=>upd_ne fun z=>by
  obtain ⟨i,hi⟩:=List.mem_iff_getElem?.mp mc
  obtain ⟨y,_,r⟩:=h.cs.at hi
  obtain ⟨dx',fs',e'⟩:=r.ins
  rw [z,e] at e'
  cases e'
variable {k:LA} {n:Ln}
theorem LnAt.setL (zo:Z.Ok) (h:LnAt Z H k n) {dx dx':Addr} {fs:List (Str×V)} (e:H k.a=some (.ins Z.l dx fs)) (n':Ln) (hp:n'.pg=n.pg):LnAt Z (upd H k.a (.ins Z.l dx' (lnF k.lp n'))) k n':=by
 refine ⟨⟨_,upd_same⟩,?_,?_,h.n1,h.n2,h.n3⟩
 ·rw [upd_ne (fun z=>by have:=h.ls;rw [z,e] at this;cases this)]
  exact h.ls
 ·rw [hp]
  exact h.pg.map fun _ _ r=>r.updN zo e
theorem nd_ix {α:Type} {xs:List α} {i j:Nat} {x y:α} (nd:xs.Nodup) (ne:i≠j) (h1:xs[i]?=some x) (h2:xs[j]?=some y):x≠y:=fun z=>by
 subst z
 exact ne ((List.getElem?_inj (List.getElem?_eq_some_iff.mp h1).1 nd).mp (h1.trans h2.symm))
theorem set_self {α:Type}:∀ {xs:List α} {i:Nat} {x:α},xs[i]?=some x->xs.set i x=xs
 |[],_,_,e=>by simp at e
 |a::r,0,x,e=>by simp at e;subst e;rfl
 |a::r,i+1,x,e=>by rw [List.set_cons_succ,set_self (i:=i) (by simpa using e)]
theorem LnAt.setP (zo:Z.Ok) (h:LnAt Z H k n) {i:Nat} {s:PA} {m m':Pg} {dx':Addr} (hs:k.ps[i]?=some s) (hm:n.pg[i]?=some m) (hc:m'.cs=m.cs):LnAt Z (upd H s.p (.ins Z.p dx' (pgF s.l m'))) k { n with pg:=n.pg.set i m' }:=by
 obtain ⟨y,ey,r⟩:=h.pg.at hs
 rw [hm] at ey
 cases ey
 obtain ⟨dx,e⟩:=r.ob
 have ep:(k.ps.map (·.p))[i]?=some s.p:=by rw [List.getElem?_map,hs];rfl
 refine ⟨?_,?_,?_,h.n1,h.n2,h.n3⟩
 ·obtain ⟨dl,el⟩:=h.ob
  refine ⟨dl,?_⟩
  rw [upd_ne (fun z=>by
   rw [z,e] at el
   injection el with el
   injection el with el
   exact zo.pl el)]
  exact el
 ·rw [upd_ne (fun z=>by have:=h.ls;rw [z,e] at this;cases this)]
  exact h.ls
 ·have pp:=Pd.setM (R:=PgAt Z H) (R':=PgAt Z (upd H s.p (.ins Z.p dx' (pgF s.l m')))) (x:=s) (y:=m') (xs:=k.ps) (ys:=n.pg) ?_ i (fun j u v ne eu q=>q.updP zo e (nd_ix h.n1 ne (by rw [List.getElem?_map,eu];rfl) ep)) h.pg
  ·rw [set_self hs] at pp
   exact pp
  ·refine ⟨⟨_,upd_same⟩,?_,?_⟩
   ·rw [upd_ne (fun z=>by have:=r.ls;rw [z,e] at this;cases this)]
    exact r.ls
   ·rw [hc]
    refine Pd.mapM (fun c mc y q=>q.upd (Kt.ins e zo.kp) fun z=>?_) r.cs
    obtain ⟨dx',fs',e'⟩:=q.ins
    rw [z,e] at e'
    injection e' with e'
    injection e' with e'
    exact zo.cp e'.symm
theorem map_set_same {α β:Type} (f:α->β) {xs:List α} {i:Nat} {s s':α} (hs:xs[i]?=some s) (e:f s'=f s):(xs.set i s').map f=xs.map f:=by
 rw [List.map_set,e]
 exact set_self (by rw [List.getElem?_map,hs];rfl)
theorem flat_sub {ps qs:List PA} (h:ps.Sublist qs):(ps.flatMap (·.cs)).Sublist (qs.flatMap (·.cs)):=by
 induction h with
 |slnil=>exact List.Sublist.refl _
 |cons a _ ih=>rw [List.flatMap_cons];exact ih.trans (List.sublist_append_right _ _)
 |cons_cons a _ ih=>rw [List.flatMap_cons,List.flatMap_cons];exact (List.Sublist.refl _).append ih
theorem flat_set_sub:∀ {ps:List PA} {i:Nat} {s s':PA},ps[i]?=some s->s'.cs.Sublist s.cs->((ps.set i s').flatMap (·.cs)).Sublist (ps.flatMap (·.cs))
 |[],_,_,_,e,_=>by simp at e
 | a::r,0,s,s',e,h=>by
   simp at e
   subst e
   rw [List.set_cons_zero,List.flatMap_cons,List.flatMap_cons]
   exact h.append (List.Sublist.refl _)
 | a::r,i+1,s,s',e,h=>by
   rw [List.set_cons_succ,List.flatMap_cons,List.flatMap_cons]
   exact (List.Sublist.refl _).append (flat_set_sub (i:=i) (by simpa using e) h)
theorem LnAt.ne_lp (h:LnAt Z H k n) {i:Nat} {s:PA} (hs:k.ps[i]?=some s):s.l≠k.lp:=fun z=>by
 have:=(List.nodup_cons.mp h.n2).1
 exact this (by rw [← z];exact List.mem_map.mpr ⟨s,List.mem_of_getElem? hs,rfl⟩)
theorem LnAt.ne_l (h:LnAt Z H k n) {i j:Nat} {s s':PA} (ne:i≠j) (hs:k.ps[i]?=some s) (hs':k.ps[j]?=some s'):s.l≠s'.l:=
 nd_ix (List.nodup_cons.mp h.n2).2 ne (by rw [List.getElem?_map,hs];rfl) (by rw [List.getElem?_map,hs'];rfl)
theorem LnAt.setPs (h:LnAt Z H k n) {ps:List PA} {pg:List Pg} (hp:Pd (PgAt Z H) ps pg) (ne:∀ s∈ps,s.l≠k.lp) (n1:(ps.map (·.p)).Nodup) (n2:(ps.map (·.l)).Nodup) (n3:(ps.flatMap (·.cs)).Nodup):LnAt Z (upd H k.lp (.lst (ps.map fun s=>V.ref s.p))) { k with ps:=ps } { n with pg:=pg }:=by
 obtain ⟨dx,e⟩:=h.ob
 refine ⟨⟨dx,?_⟩,upd_same,Pd.mapM (fun s ms y r=>r.updL h.ls (ne s ms)) hp,n1,?_,n3⟩
 ·show upd H k.lp _ k.a=_
  rw [upd_ne (fun z=>by have:=h.ls;rw [← z,e] at this;cases this)]
  exact e
 ·refine List.nodup_cons.mpr ⟨fun m=>?_,n2⟩
  obtain ⟨s,ms,z⟩:=List.mem_map.mp m
  exact ne s ms z
theorem LnAt.pop (h:LnAt Z H k n) (i:Nat):LnAt Z (upd H k.lp (.lst ((k.ps.eraseIdx i).map fun s=>V.ref s.p))) { k with ps:=k.ps.eraseIdx i } { n with pg:=n.pg.eraseIdx i }:=by
 have sb:=List.eraseIdx_sublist k.ps i
 refine h.setPs (h.pg.erase i) (fun s ms=>?_) (h.n1.sublist (sb.map _)) ((List.nodup_cons.mp h.n2).2.sublist (sb.map _)) (h.n3.sublist (flat_sub sb))
 obtain ⟨j,hj⟩:=List.mem_iff_getElem?.mp (sb.subset ms)
 exact h.ne_lp hj
theorem LnAt.page (h:LnAt Z H k n) {s:PA} {m:Pg} (hs:PgAt Z H s m) (e:s.cs=[]) (np:s.p∉k.ps.map (·.p)) (nl:s.l∉k.ls):LnAt Z (upd H k.lp (.lst ((k.ps++[s]).map fun s=>V.ref s.p))) { k with ps:=k.ps++[s] } { n with pg:=n.pg++[m] }:=by
 refine h.setPs (Pd.app (.cons hs .nil) h.pg) (fun s' ms=>?_) ?_ ?_ ?_
 ·rcases List.mem_append.mp ms with ms|ms
  ·obtain ⟨j,hj⟩:=List.mem_iff_getElem?.mp ms
   exact h.ne_lp hj
  ·cases List.mem_singleton.mp ms
   exact fun z=>nl (by rw [z];exact List.mem_cons_self ..)
 ·rw [List.map_append]
  exact List.nodup_append.mpr ⟨h.n1,by simp,fun a ma b mb z=>by
   have mb:b=s.p:=by simpa using mb
   rw [z,mb] at ma
   exact np ma⟩
 ·rw [List.map_append]
  exact List.nodup_append.mpr ⟨(List.nodup_cons.mp h.n2).2,by simp,fun a ma b mb z=>by
   have mb:b=s.l:=by simpa using mb
   rw [z,mb] at ma
   exact nl (List.mem_cons_of_mem _ ma)⟩
 ·rw [List.flatMap_append]
  have:[s].flatMap (·.cs)=[]:=by simp [e]
  rw [this,List.append_nil]
  exact h.n3
theorem nd_set {α:Type} {z:α}:∀ {zs:List α} {i:Nat},zs.Nodup->z∉zs->(zs.set i z).Nodup
 |[],_,_,_=>by simp
 |a::r,0,b,nm=>List.nodup_cons.mpr ⟨fun m=>nm (List.mem_cons_of_mem _ m),(List.nodup_cons.mp b).2⟩
 | a::r,i+1,b,nm=>by
   obtain ⟨b1,b2⟩:=List.nodup_cons.mp b
   refine List.nodup_cons.mpr ⟨fun m=>?_,nd_set b2 fun m=>nm (List.mem_cons_of_mem _ m)⟩
   rcases List.mem_or_eq_of_mem_set m with m|m
   ·exact b1 m
   ·exact nm (by rw [m];exact List.mem_cons_self ..)
theorem LnAt.setI (h:LnAt Z H k n) {H':Hp} {i:Nat} {s s':PA} {m':Pg} (hs:k.ps[i]?=some s) (hp:s'.p=s.p) (hl:s'.l=s.l∨s'.l∉k.ls) (n3:((k.ps.set i s').flatMap (·.cs)).Nodup) (h':PgAt Z H' s' m')
 (ea:∀ o,H k.a=some o->H' k.a=some o) (el:∀ o,H k.lp=some o->H' k.lp=some o) (eo:∀ j u v,j≠i->k.ps[j]?=some u->PgAt Z H u v->PgAt Z H' u v):LnAt Z H' { k with ps:=k.ps.set i s' } { n with pg:=n.pg.set i m' }:=by
 obtain ⟨dx,e⟩:=h.ob
 refine ⟨⟨dx,ea _ e⟩,?_,Pd.setM h' i eo h.pg,?_,?_,n3⟩
 ·have:=el _ h.ls
  show H' k.lp=some (.lst ((k.ps.set i s').map fun s=>V.ref s.p))
  rw [map_set_same (fun s:PA=>V.ref s.p) hs (by rw [hp])]
  exact this
 ·show ((k.ps.set i s').map (·.p)).Nodup
  rw [map_set_same (·.p) hs hp]
  exact h.n1
 ·show (k.lp::(k.ps.set i s').map (·.l)).Nodup
  rcases hl with hl|hl
  ·rw [map_set_same (·.l) hs hl]
   exact h.n2
  ·obtain ⟨a,b⟩:=List.nodup_cons.mp h.n2
   have il:i<k.ps.length:=(List.getElem?_eq_some_iff.mp hs).1
   refine List.nodup_cons.mpr ⟨fun m=>?_,?_⟩
   ·rw [List.map_set] at m
    rcases List.mem_or_eq_of_mem_set m with m|m
    ·exact a m
    ·exact hl (by rw [← m];exact List.mem_cons_self ..)
   ·rw [List.map_set]
    exact nd_set b (fun m=>hl (List.mem_cons_of_mem _ m))
theorem own_sub {k:LA} {ps:List PA} (h:ps.Sublist k.ps) {c:Addr} (mc:c∈({ k with ps:=ps }:LA).own):c∈k.own:=by
 rcases List.mem_cons.mp mc with rfl|mc
 ·exact List.mem_cons_self ..
 ·rcases List.mem_append.mp mc with mc|mc
  ·exact List.mem_cons_of_mem _ (List.mem_append.mpr (.inl ((h.map _).subset mc)))
  ·exact List.mem_cons_of_mem _ (List.mem_append.mpr (.inr ((flat_sub h).subset mc)))
end
theorem pe_fldK {X:Cx} {K:Frag} {e:Expr} {f:Str} {pos:Pos} {ta:TE} (hK:X.K=K) (he:PE X e ta) (hb:attributeBase e f X.env (eval e X.env)=eval e X.env):PE X (.Attribute e f pos) (tFld K ta f):=by
 subst hK
 exact pe_fld he hb
structure MD (K:PySem.W.Frag) (C:Addr) (m qual:Str) (st:Stmt) (ps:List Str) (f:Addr) (fd:FuncData):Prop where
 M:Meth K C m f
 F:Fun K m qual st f fd
 b:Binds K fd ps []
abbrev cM (j:Nat):Stmt:=inClass (top 32) j
abbrev gM (j:Nat):Stmt:=inClass (top 33) j
abbrev lM (j:Nat):Stmt:=inClass (top 34) j
structure LZ (K:Frag) (mg:Str->Option Value) (Z:LC):Prop where
 ok:Z.Ok
 kc:KCls K mg Z.k
 cc:Cls K Z.c
 cmg:mg "Claim" = some (.ref Z.c)
 c1:NoAttr K Z.c "ticket"
 c2:NoAttr K Z.c "time"
 c3:NoAttr K Z.c "form"
 c4:NoAttr K Z.c "filled"
 c5:NoAttr K Z.c "given"
 pc:Cls K Z.p
 pmg:mg "Page" = some (.ref Z.p)
 p1:NoAttr K Z.p "claims"
 p2:NoAttr K Z.p "used"
 p3:NoAttr K Z.p "gone"
 lc:Cls K Z.l
 lmg:mg "Lane" = some (.ref Z.l)
 l1:NoAttr K Z.l "most"
 l2:NoAttr K Z.l "room"
 l3:NoAttr K Z.l "over"
 l4:NoAttr K Z.l "pages"
 l5:NoAttr K Z.l "held"
 l6:NoAttr K Z.l "told"
 l7:NoAttr K Z.l "last_time"
 l8:NoAttr K Z.l "tickets"
 l9:NoAttr K Z.l "given_in"
 l10:NoAttr K Z.l "thrown_back"
 l11:NoAttr K Z.l "lost"
 l12:NoAttr K Z.l "missed"
theorem new_same {H H':Hp} {x dx:Addr} {o:HO} (hx:H x=none) (hdx:H dx=none) (k:∀ b u,upd (upd H dx (.own x)) x o b=some u->b≠x->H' b=some u):Same H H':=fun b u e=>by
 have n1:b≠x:=ne_of_none e hx
 have n2:b≠dx:=ne_of_none e hdx
 exact k b u (by rw [upd_ne n1,upd_ne n2];exact e) n1
section
variable {P:Program} {w:World} {K:PySem.W.Frag} {mg:Str->Option Value} {base:Heap} {Z:LC}
def spPI (Z:LC):Sp:=fun vs H Q _=>∃ (o dx:Addr),vs=[.ref o]/\H o=some (.ins Z.p dx [])/\∀ l H',H l=none->H' o=some (.ins Z.p dx (pgF l ⟨[],0,0⟩))->H' l=some (.lst [])->(∀ b u,H b=some u->b≠o->H' b=some u)->Q .non H'
theorem scPI:FnScope ["self"] ["self"] (defScope (gM 0)):=⟨rfl,rfl,rfl,by decide +kernel,rfl,by decide +kernel,by decide +kernel⟩
theorem ok_pi {f:Addr} {fd:FuncData} (F:Fun K "__init__" "Page.__init__" (gM 0) f fd) (L:LZ K mg Z):FnOk P w K mg base CX0 1 f fd ["self"] (spPI Z):=by
 refine F.ok scPI (fun vs H Q E h=>?_) (fun cdv A outer s H vs Q E hr h=>?_)
 ·obtain ⟨o,dx,rfl,_⟩:=h
  rfl
 ·obtain ⟨o,dx,rfl,ho,k⟩:=h
  refine ⟨_,(pss_cons (ps_fld (pv 0) (pe_lst pa_nil) rfl) (pss_cons (ps_fld (pv 0) pe_int rfl) (pss_one (ps_fld (pv 0) pe_int rfl)))),?_⟩
  refine ⟨(show 0≤sizeLine by decide),fun l hl=>?_⟩
  have nol:o≠l:=ne_of_none ho hl
  refine ⟨_,rfl,o,Z.p,dx,[],rfl,(by rw [upd_ne nol];exact ho),L.pc,L.p1,(show 0<1000 by decide),?_⟩
  refine ⟨_,rfl,o,Z.p,dx,_,rfl,upd_same,L.pc,L.p2,(show 1<1000 by decide),?_⟩
  refine ⟨_,rfl,o,Z.p,dx,_,rfl,upd_same,L.pc,L.p3,(show 2<1000 by decide),?_⟩
  refine k l _ hl upd_same ?_ ?_
  ·rw [upd_ne nol.symm,upd_ne nol.symm,upd_ne nol.symm,upd_same]
  ·intro b u e nb
   rw [upd_ne nb,upd_ne nb,upd_ne nb,upd_ne (ne_of_none e hl)]
   exact e
def opn (cs:List Cl):List Cl:=cs.filter fun c=>!c.gv
def spUn (Z:LC):Sp:=fun vs H Q _=>∃ (s:PA) (m:Pg),vs=[.ref s.p]/\PgAt Z H s m/\s.cs.length≤1000/\∀ (l:Addr) (as:List Addr) (H':Hp),Same H H'->H' l=some (.lst (as.map V.ref))->Pd (ClAt Z H') as (opn m.cs)->as.Sublist s.cs->Q (.ref l) H'
theorem scUn:FnScope ["self"] ["self"] (defScope (gM 1)):=⟨rfl,rfl,rfl,by decide +kernel,rfl,by decide +kernel,by decide +kernel⟩
theorem comp_cl {Z:LC} {K:Frag} {H0:Hp} {a:Addr} {cs:List Addr} {ms:List Cl} {tt:TT} {σr:St} {F:List V->Hp->Prop} (ha:H0 a=some (.lst (cs.map V.ref))) (hp:Pd (ClAt Z H0) cs ms) (hl:cs.length≤1000) (f:Cl->Bool)
 (ht:∀ c m,ClAt Z H0 c m->∀ Q:Bool->Hp->Prop,Q (f m) H0->tt (some (.ref c)::σr) H0 Q) (hF:∀ as,Pd (ClAt Z H0) as (ms.filter f)->as.Sublist cs->F (as.map V.ref) H0) :
 ∃ W:Nat->Nat->List V->St->Hp->Prop,(∃ m,W 0 m [] (none::σr) H0)/\CTurn (Itl K a) (gName 0) tt (tVar 0) F W:=by
 have pl:=hp.len
 refine comp_listF (K:=K) (a:=a) (xs:=cs.map V.ref) (fun i ys σ H=>H=H0/\(∃ u,σ=u::σr)/\∃ as,ys=as.map V.ref/\Pd (ClAt Z H0) as ((ms.take i).filter f)/\as.Sublist (cs.take i)) (by rw [List.length_map];exact Nat.le_trans hl (by decide)) ⟨rfl,⟨none,rfl⟩,[],rfl,.nil,List.Sublist.refl _⟩ (fun i ys σ H _ h=>by rw [h.1];exact SqL.of ha) ?_ ?_
 ·rintro i x ys σ H hx ⟨rfl,⟨u,rfl⟩,as,rfl,pd,sb⟩ N hN
  rw [List.getElem?_map] at hx
  obtain ⟨c,hc,rfl⟩:∃ c,cs[i]?=some c/\V.ref c=x:=by
   cases hj:cs[i]? with
   |none=>rw [hj] at hx;cases hx
   |some c=>rw [hj] at hx;exact ⟨c,rfl,by simpa using hx⟩
  obtain ⟨m,hm,r⟩:=hp.at hc
  dsimp only [gName,List.set]
  refine ht c m r _ ?_
  have t1:cs.take (i+1)=cs.take i++[c]:=by rw [List.take_add_one,hc];rfl
  have t2:ms.take (i+1)=ms.take i++[m]:=by rw [List.take_add_one,hm];rfl
  cases hf:f m with
  | true=>
    rw [if_pos rfl]
    refine ⟨_,rfl,hN _ _ _ ⟨rfl,⟨_,rfl⟩,as++[c],by rw [List.map_append];rfl,?_,?_⟩ (by rw [List.length_append];exact Nat.le_refl _)⟩
    ·rw [t2,List.filter_append]
     have:[m].filter f=[m]:=by simp [hf]
     rw [this]
     exact Pd.app (.cons r .nil) pd
    ·rw [t1]
     exact sb.append (List.Sublist.refl _)
  | false=>
    rw [if_neg (by decide)]
    refine hN _ _ _ ⟨rfl,⟨_,rfl⟩,as,rfl,?_,?_⟩ (by omega)
    ·rw [t2,List.filter_append]
     have:[m].filter f=[]:=by simp [hf]
     rw [this,List.append_nil]
     exact pd
    ·rw [t1]
     exact sb.trans (List.sublist_append_left _ _)
 ·rintro ys σ H _ ⟨rfl,_,as,rfl,pd,sb⟩
  rw [List.length_map] at pd sb
  rw [pl,List.take_length] at pd
  rw [List.take_length] at sb
  exact hF as pd sb
theorem ok_un {f:Addr} {fd:FuncData} (F:Fun K "unclosed" "Page.unclosed" (gM 1) f fd) (L:LZ K mg Z):FnOk P w K mg base CX0 1 f fd ["self"] (spUn Z):=by
 refine F.ok scUn (fun vs H Q E h=>?_) (fun cdv A outer s H vs Q E hr h=>?_)
 ·obtain ⟨s,m,rfl,_⟩:=h
  rfl
 ·obtain ⟨s,m,rfl,pg,hl,k⟩:=h
  obtain ⟨dx,ho⟩:=pg.ob
  refine ⟨_,(pss_one (ps_ret (pe_comp (g:=gName 0) (own:=["claim"]) (js:=[]) (N':=["claim"]) (CompScope.of (osc:=defScope (gM 1)) (N:=["self"]) rfl rfl ⟨rfl,by decide +kernel,by decide +kernel,by decide +kernel,rfl,by decide +kernel⟩) rfl (pi_list (pe_fld (pv 0) (by rfl))) (fun _ _ _ _ _=>(pg_name (i:=0) (show List.Nodup (["claim"]:List Str) by decide +kernel) rfl (Or.inl rfl) (Or.inr rfl))) (fun _ _ _ _ _=>pifs_one (pt_not (pt_val (pe_fldK (K:=K) rfl (pv 0) rfl)))) (fun _ _ _ _ _=>pv 0)))),?_⟩
  refine ⟨_,rfl,s.p,Z.p,dx,_,_,rfl,ho,L.pc,L.p1,rfl,s.l,rfl,⟨_,SqL.of pg.ls⟩,?_⟩
  refine comp_cl (σr:=[]) pg.ls pg.cs hl (fun c=>!c.gv) ?_ ?_
  ·intro c m r Q' q'
   obtain ⟨dc,kk,a,t,e,_⟩:=r.ex
   exact ⟨_,rfl,c,Z.c,dc,_,_,rfl,e,L.cc,L.c5,rfl,_,rfl,q'⟩
  ·intro as pd sb
   refine ⟨by rw [List.length_map];exact Nat.le_trans (Nat.le_trans sb.length_le hl) (by decide),fun p hp=>?_⟩
   have s1:=Same.new (o:=.lst (as.map V.ref)) hp
   exact k p as _ s1 upd_same (pd.map fun _ _ r=>r.same s1) sb
def wto (tk:Int) (cs:List Cl):List Cl:=cs.filter fun c=>decide (c.tk≠tk)
def spWo (Z:LC):Sp:=fun vs H Q _=>∃ (s:PA) (m:Pg) (tk:Int),vs=[.ref s.p,.int tk]/\PgAt Z H s m/\s.cs.length≤1000/\∀ (l:Addr) (as:List Addr) (H':Hp),Same H H'->H l=none->H' l=some (.lst (as.map V.ref))->Pd (ClAt Z H') as (wto tk m.cs)->as.Sublist s.cs->Q (.ref l) H'
theorem scWo:FnScope ["self","ticket"] ["self","ticket"] (defScope (gM 2)):=⟨rfl,rfl,rfl,by decide +kernel,rfl,by decide +kernel,by decide +kernel⟩
theorem ok_wo {f:Addr} {fd:FuncData} (F:Fun K "without" "Page.without" (gM 2) f fd) (L:LZ K mg Z):FnOk P w K mg base CX0 1 f fd ["self","ticket"] (spWo Z):=by
 refine F.ok scWo (fun vs H Q E h=>?_) (fun cdv A outer s H vs Q E hr h=>?_)
 ·obtain ⟨s,m,tk,rfl,_⟩:=h
  rfl
 ·obtain ⟨s,m,tk,rfl,pg,hl,k⟩:=h
  obtain ⟨dx,ho⟩:=pg.ob
  refine ⟨_,(pss_one (ps_ret (pe_comp (g:=gName 0) (own:=["claim"]) (js:=[1]) (N':=["claim","ticket"]) (CompScope.of (osc:=defScope (gM 2)) (N:=["self","ticket"]) rfl rfl ⟨rfl,by decide +kernel,by decide +kernel,by decide +kernel,rfl,by decide +kernel⟩) rfl (pi_list (pe_fld (pv 0) (by rfl))) (fun _ _ _ _ _=>(pg_name (i:=0) (show List.Nodup (["claim","ticket"]:List Str) by decide +kernel) rfl (Or.inl rfl) (Or.inr rfl))) (fun _ _ _ _ _=>pifs_one (pt_cmpR op_ne (pe_fldK (K:=K) rfl (pv 0) rfl) (pv 1) (nomark _))) (fun _ _ _ _ _=>pv 0)))),?_⟩
  refine ⟨_,rfl,s.p,Z.p,dx,_,_,rfl,ho,L.pc,L.p1,rfl,s.l,rfl,⟨_,SqL.of pg.ls⟩,?_⟩
  refine comp_cl (σr:=[some (.int tk)]) pg.ls pg.cs hl (fun c=>decide (c.tk≠tk)) ?_ ?_
  ·intro c m r Q' q'
   obtain ⟨dc,kk,a,t,e,_⟩:=r.ex
   refine ⟨_,rfl,c,Z.c,dc,_,_,rfl,e,L.cc,L.c1,rfl,_,rfl,rfl,_,rfl,?_⟩
   have:(!decide (V.int m.tk=V.int tk))=decide (m.tk≠tk):=by simp
   rw [← this] at q'
   exact q'
  ·intro as pd sb
   refine ⟨by rw [List.length_map];exact Nat.le_trans (Nat.le_trans sb.length_le hl) (by decide),fun p hp=>?_⟩
   have s1:=Same.new (o:=.lst (as.map V.ref)) hp
   exact k p as _ s1 hp upd_same (pd.map fun _ _ r=>r.same s1) sb
end
section
variable {P:Program} {w:World} {K:PySem.W.Frag} {mg:Str->Option Value} {base:Heap} {Z:LC}
structure KdOk (nm:Str) (fs:List Fld):Prop where
 nm:Nm nm
 le:fs.length≤4
 ok:∀ f∈fs,FldOk f
 nd:(fs.map (·.1)).Nodup
def newCl (tk tm:Int) (nm:Str) (fs:List Fld):Cl:=⟨tk,tm,nm,fs,fs.map (·.2.1),false⟩
def spCI (Z:LC):Sp:=fun vs H Q _=>∃ (o dx kd a:Addr) (tk tm:Int) (nm:Str) (fs:List Fld),vs=[.ref o,.int tk,.int tm,.ref kd]/\H o=some (.ins Z.c dx [])/\KindAt Z.k H kd nm a fs/\KdOk nm fs/\∀ H',ClAt Z H' o (newCl tk tm nm fs)->(∀ b u,H b=some u->b≠o->H' b=some u)->Q .non H'
theorem scCI:FnScope ["self","ticket","time","kind"] ["self","ticket","time","kind"] (defScope (cM 0)):=⟨rfl,rfl,rfl,by decide +kernel,rfl,by decide +kernel,by decide +kernel⟩
theorem KindAt.keep {H H':Hp} {k a o:Addr} {C dx:Addr} {fs':List (Str×V)} {nm:Str} {fi:List Fld} (h:KindAt Z.k H k nm a fi) (e:H o=some (.ins C dx fs')) (ne:Z.k≠C) (kp:∀ b u,H b=some u->b≠o->H' b=some u):KindAt Z.k H' k nm a fi:=by
 obtain ⟨⟨dk,e1⟩,xs,e2,pf⟩:=h
 refine ⟨⟨dk,kp _ _ e1 fun z=>?_⟩,xs,kp _ _ e2 (ne_of e2 e (by intro z;cases z)),flds_tk pf fun b ys eb=>kp _ _ eb (ne_of eb e (by intro z;cases z))⟩
 rw [z,e] at e1
 injection e1 with e1
 injection e1 with e1
 exact ne e1.symm
theorem ok_ci {f fI fL:Addr} {fd fdI fdL:FuncData} (F:Fun K "__init__" "Claim.__init__" (cM 0) f fd) (L:LZ K mg Z) (M:Mk K Z.k fI) (GI:FnOk P w K mg base CX0 4 fI fdI ["self","name","fields"] (spInit Z.k)) (bI:Binds K fdI ["self","name","fields"] []) (ML:MD K Z.k "lowest" "Kind.lowest" (kM 1) ["self"] fL fdL) (GL:FnOk P w K mg base CX0 1 fL fdL ["self"] (spLowest Z.k)):FnOk P w K mg base CX0 6 f fd ["self","ticket","time","kind"] (spCI Z):=by
 refine F.ok scCI (fun vs H Q E h=>?_) (fun cdv A outer s H vs Q E hr h=>?_)
 ·obtain ⟨o,dx,kd,a,tk,tm,nm,fs,rfl,_⟩:=h
  rfl
 ·obtain ⟨o,dx,kd,a,tk,tm,nm,fs,rfl,ho,ka,ko,k⟩:=h
  have hr1:Room 1 (A.deeper (PyProof.Rows.envOfC "Claim.__init__" (defScope (cM 0)) s.heap.objs.size f cdv)):=hr.mono (by decide)
  refine ⟨_,(pss_cons (ps_fld (pv 0) (pv 1) rfl) (pss_cons (ps_fld (pv 0) (pv 2) rfl)
   (pss_cons (ps_fld (pv 0) (pe_make M GI hr rfl L.kc.mg bI .nil pass0 (pa_cons (pe_fld (pv 3) rfl) (pa_cons (pe_fld (pv 3) rfl) pa_nil))) rfl)
   (pss_cons (ps_fld (pv 0) (pe_meth0 (pv 3) L.kc.cl ML.M GL hr1 ML.b .nil pass0) rfl) (pss_one (ps_fld (pv 0) pe_bl rfl)))))),?_⟩
  have zk:=L.ok.kc
  refine ⟨_,rfl,_,rfl,o,Z.c,dx,[],rfl,ho,L.cc,L.c1,(show 0<1000 by decide),?_⟩
  refine ⟨_,rfl,_,rfl,o,Z.c,dx,_,rfl,upd_same,L.cc,L.c2,(show 1<1000 by decide),?_⟩
  generalize hH2:upd (upd H o (.ins Z.c dx (putF "ticket" (.int tk) []))) o (.ins Z.c dx (putF "time" (.int tm) (putF "ticket" (.int tk) [])))=H2
  have k2:∀ b u,H b=some u->b≠o->H2 b=some u:=fun b u e nb=>by rw [← hH2,upd_ne nb,upd_ne nb];exact e
  have e2:H2 o=some (.ins Z.c dx [("ticket",.int tk),("time",.int tm)]):=by rw [← hH2,upd_same];rfl
  clear hH2
  have ka2:=ka.keep ho zk k2
  obtain ⟨⟨dk,ek⟩,xs,et,pf⟩:=id ka2
  refine ⟨_,rfl,kd,Z.k,dk,_,_,rfl,ek,L.kc.cl,L.kc.nN,kf_name nm a,_,rfl,kd,Z.k,dk,_,_,rfl,ek,L.kc.cl,L.kc.nF,kf_fields nm a,fun x dx' hx hdx ndx=>?_⟩
  have s3:Same H2 (upd (upd H2 dx' (.own x)) x (.ins Z.k dx' [])):=(Same.new hdx).trans (Same.new (by rw [upd_ne ndx.symm];exact hx))
  refine ⟨x,dx',a,nm,xs,fs,rfl,upd_same,ko.nm,s3 _ _ et,flds_tk pf (fun b ys e=>s3 _ _ e),ko.le,ko.ok,ko.nd,fun H4 ka4 k4=>⟨rfl,?_⟩⟩
  have s4:Same H2 H4:=new_same hx hdx k4
  refine ⟨_,rfl,o,Z.c,dx,_,rfl,s4 _ _ e2,L.cc,L.c3,(show 2<1000 by decide),?_⟩
  generalize hH5:upd H4 o (.ins Z.c dx (putF "form" (.ref x) [("ticket",.int tk),("time",.int tm)]))=H5
  have e4:=s4 _ _ e2
  have k5:∀ b u,H4 b=some u->b≠o->H5 b=some u:=fun b u e nb=>by rw [← hH5,upd_ne nb];exact e
  have e5:H5 o=some (.ins Z.c dx [("ticket",.int tk),("time",.int tm),("form",.ref x)]):=by rw [← hH5,upd_same];rfl
  clear hH5
  have ka5:KindAt Z.k H5 x nm a fs:=ka4.keep e4 zk k5
  have kb5:KindAt Z.k H5 kd nm a fs:=(ka2.kt (Same.kt s4)).keep e4 zk k5
  obtain ⟨⟨dk5,ek5⟩,_⟩:=id kb5
  refine ⟨_,rfl,kd,dk5,_,rfl,ek5,kf_no nm a (by decide +kernel) (by decide +kernel),kd,a,nm,fs,rfl,kb5,ko.le,fun p H6 hp s6=>?_⟩
  refine ⟨_,rfl,o,Z.c,dx,_,rfl,s6 _ _ e5,L.cc,L.c4,(show 3<1000 by decide),?_⟩
  refine ⟨_,rfl,o,Z.c,dx,_,rfl,upd_same,L.cc,L.c5,(show 4<1000 by decide),?_⟩
  have npo:p≠o:=ne_of hp (s6 _ _ e5) (by intro z;cases z)
  have k7:∀ b u,H6 b=some u->b≠o->(upd (upd H6 o (.ins Z.c dx (putF "filled" (.ref p) [("ticket",.int tk),("time",.int tm),("form",.ref x)]))) o (.ins Z.c dx (putF "given" (.bl false) (putF "filled" (.ref p) [("ticket",.int tk),("time",.int tm),("form",.ref x)])))) b=some u:=fun b u e nb=>by rw [upd_ne nb,upd_ne nb];exact e
  refine k _ ⟨dx,x,a,p,upd_same,(ka5.kt (Same.kt s6)).keep (s6 _ _ e5) zk k7,?_⟩ ?_
  ·refine k7 _ _ (hp.trans ?_) npo
   show some (HO.tup (fs.map fun f=>V.int f.2.1))=some (.tup ((fs.map (·.2.1)).map V.int))
   rw [List.map_map]
   rfl
  ·exact fun b u e nb=>k7 _ _ (s6 _ _ (k5 _ _ (s4 _ _ (k2 _ _ e nb)) nb)) nb
end
def eld (n:Ln):Nat:=if n.held then 1 else 0
def leaveM (i:Nat) (n:Ln):Ln:=match n.pg[i]?,n.pg[i+1]? with
 |some p,some q=>{ n with pg:=(n.pg.eraseIdx i).set i { q with go:=q.go+(p.go+p.cs.length) } }
 |_,_=>n
def loseM (n:Ln):Ln:=leaveM (eld n) { n with los:=n.los+((n.pg[eld n]?.map (·.cs.length)).getD 0:Nat) }
theorem er_map {α β:Type} (f:α->β):∀ (xs:List α) (i:Nat),(xs.eraseIdx i).map f=(xs.map f).eraseIdx i
 |[],_=>rfl
 |_::_,0=>rfl
 |x::r,i+1=>by rw [List.eraseIdx_cons_succ,List.map_cons,List.map_cons,List.eraseIdx_cons_succ,er_map f r i]
theorem er_at {α:Type}:∀ (xs:List α) (i:Nat),(xs.eraseIdx i)[i]?=xs[i+1]?
 |[],_=>rfl
 |_::_,0=>by simp
 |x::r,i+1=>by rw [List.eraseIdx_cons_succ];simpa using er_at r i
section
variable {P:Program} {w:World} {K:PySem.W.Frag} {mg:Str->Option Value} {base:Heap} {Z:LC}
def spEl (Z:LC):Sp:=fun vs H Q _=>∃ (k:LA) (n:Ln),vs=[.ref k.a]/\LnAt Z H k n/\Q (.int (eld n:Nat)) H
theorem scEl:FnScope ["self"] ["self"] (defScope (lM 3)):=⟨rfl,rfl,rfl,by decide +kernel,rfl,by decide +kernel,by decide +kernel⟩
theorem ok_el {f:Addr} {fd:FuncData} (F:Fun K "eldest" "Lane.eldest" (lM 3) f fd) (L:LZ K mg Z):FnOk P w K mg base CX0 1 f fd ["self"] (spEl Z):=by
 refine F.ok scEl (fun vs H Q E h=>?_) (fun cdv A outer s H vs Q E hr h=>?_)
 ·obtain ⟨k,n,rfl,_⟩:=h
  rfl
 ·obtain ⟨k,n,rfl,ln,q⟩:=h
  obtain ⟨dx,e⟩:=ln.ob
  refine ⟨_,(pss_one (ps_ret (pe_ifExp (pt_val (pe_fld (pv 0) rfl)) pe_int pe_int))),?_⟩
  refine ⟨_,rfl,k.a,Z.l,dx,_,_,rfl,e,L.lc,L.l5,rfl,_,rfl,?_⟩
  unfold eld at q
  cases hh:n.held with
  |true=>rw [hh] at q;exact ifT rfl q
  |false=>rw [hh] at q;exact ifF rfl q
def spLv (Z:LC):Sp:=fun vs H Q _=>∃ (k:LA) (n:Ln) (i:Nat),vs=[.ref k.a,.int (i:Nat)]/\LnAt Z H k n/\i+1<n.pg.length/\n.pg.length≤1000/\∀ k' H',LnAt Z H' k' (leaveM i n)->Mv Z k H k' H'->Q .non H'
theorem scLv:FnScope ["self","number","page","later"] ["self","number"] (defScope (lM 5)):=⟨rfl,rfl,rfl,by decide +kernel,rfl,by decide +kernel,by decide +kernel⟩
theorem ok_lv {f:Addr} {fd:FuncData} (F:Fun K "leave" "Lane.leave" (lM 5) f fd) (T:Txt K mg) (L:LZ K mg Z):FnOk P w K mg base CX0 1 f fd ["self","number"] (spLv Z):=by
 refine F.ok scLv (fun vs H Q E h=>?_) (fun cdv A outer s H vs Q E hr h=>?_)
 ·obtain ⟨k,n,i,rfl,_⟩:=h
  rfl
 ·obtain ⟨k,n,i,rfl,ln,hi,hl,q⟩:=h
  refine ⟨_,(pss_cons (ps_set (i:=2) scLv.nd rfl (Or.inl rfl) (pe_bm PySem.F.plainAttrs_list PySem.F.slot_list_pop PySem.F.type_list_pop mt_popAt (pe_fld (pv 0) rfl) (pa_cons (pv 1) pa_nil)))
   (pss_cons (ps_set (i:=3) scLv.nd rfl (Or.inl rfl) (pe_ix ix_list (pe_fld (pv 0) rfl) (pv 1) (fun _ _=>rfl)))
   (pss_one (ps_fldaug (pv 3) (pe_op op_add (pe_fld (pv 2) rfl) (pe_callB call_len_seq (by rfl) T.len bt_len (pa_cons (pe_fld (pv 2) rfl) pa_nil))) in_add)))),?_⟩
  obtain ⟨dx,e⟩:=ln.ob
  have pl:=ln.pg.len
  obtain ⟨s0,hs0⟩:∃ s,k.ps[i]?=some s:=⟨_,List.getElem?_eq_getElem (by omega)⟩
  obtain ⟨s1,hs1⟩:∃ s,k.ps[i+1]?=some s:=⟨_,List.getElem?_eq_getElem (by omega)⟩
  obtain ⟨m0,hm0,r0⟩:=ln.pg.at hs0
  obtain ⟨m1,hm1,r1⟩:=ln.pg.at hs1
  have ex:(k.ps.map fun s=>V.ref s.p)[i]?=some (.ref s0.p):=by rw [List.getElem?_map,hs0];rfl
  refine ⟨_,rfl,k.a,Z.l,dx,_,_,rfl,e,L.lc,L.l4,rfl,.inl ⟨rfl,_,SqL.of ln.ls⟩,_,rfl,k.lp,_,_,i,_,rfl,rfl,ln.ls,by omega,by omega,?_,ex,?_⟩
  ·rw [List.length_map]
   unfold seqIndex?
   simp
   omega
  rw [← er_map]
  have ln1:=ln.pop i
  have r01:PgAt Z (upd H k.lp (.lst ((k.ps.eraseIdx i).map fun s=>V.ref s.p))) s0 m0:=r0.updL ln.ls (ln.ne_lp hs0)
  have mv1:Mv Z k H { k with ps:=k.ps.eraseIdx i } (upd H k.lp (.lst ((k.ps.eraseIdx i).map fun s=>V.ref s.p))):=Mv.lst ln.ls (List.mem_cons_self ..) rfl (fun l ml=>by
   rcases List.mem_cons.mp ml with rfl|ml
   ·exact .inl (List.mem_cons_self ..)
   ·exact .inl (List.mem_cons_of_mem _ (((List.eraseIdx_sublist k.ps i).map _).subset ml))) (fun c mc=>.inl (own_sub (List.eraseIdx_sublist k.ps i) mc))
  generalize upd H k.lp (.lst ((k.ps.eraseIdx i).map fun s=>V.ref s.p))=H1 at ln1 r01 mv1 ⊢
  have hs1':(k.ps.eraseIdx i)[i]?=some s1:=by rw [er_at];exact hs1
  have hm1':(n.pg.eraseIdx i)[i]?=some m1:=by rw [er_at];exact hm1
  obtain ⟨m1',hm1'',r1'⟩:=ln1.pg.at hs1'
  have:m1'=m1:=by
   have:=hm1''.symm.trans hm1'
   injection this
  subst this
  obtain ⟨dx1,e1⟩:=ln1.ob
  obtain ⟨dp,ep⟩:=r1'.ob
  obtain ⟨d0,e0⟩:=r01.ob
  have ex1:((k.ps.eraseIdx i).map fun s=>V.ref s.p)[i]?=some (.ref s1.p):=by rw [List.getElem?_map,hs1'];rfl
  refine ⟨_,rfl,k.a,Z.l,dx1,_,_,rfl,e1,L.lc,L.l4,rfl,_,rfl,k.lp,_,_,_,rfl,rfl,SqL.of ln1.ls,atI_nat ex1,?_⟩
  refine ⟨_,rfl,s1.p,Z.p,dp,_,_,rfl,ep,L.pc,L.p3,rfl,?_⟩
  refine ⟨_,rfl,s0.p,Z.p,d0,_,_,rfl,e0,L.pc,L.p3,rfl,_,rfl,s0.p,Z.p,d0,_,_,rfl,e0,L.pc,L.p1,rfl,s0.l,_,rfl,.inl (SqL.of r01.ls),_,_,rfl,rfl,_,_,rfl,rfl,dp,_,ep,(show 3<1000 by decide),?_⟩
  have ln2:=ln1.setP L.ok (dx':=dp) hs1' hm1' (m':={ m1' with go:=m1'.go+(m0.go+m0.cs.length) }) rfl
  have ec:(s0.cs.map V.ref).length=m0.cs.length:=by rw [List.length_map];exact r0.cs.len
  rw [ec]
  refine q { k with ps:=k.ps.eraseIdx i } _ ?_ (mv1.trans (Mv.ins ep (.inr (.inl rfl)) (LA.p_own (k:={ k with ps:=k.ps.eraseIdx i }) hs1')))
  unfold leaveM
  rw [hm0,hm1]
  exact ln2
def spLo (Z:LC):Sp:=fun vs H Q _=>∃ (k:LA) (n:Ln),vs=[.ref k.a]/\LnAt Z H k n/\eld n+1<n.pg.length/\n.pg.length≤1000/\∀ k' H',LnAt Z H' k' (loseM n)->Mv Z k H k' H'->Q .non H'
theorem scLo:FnScope ["self"] ["self"] (defScope (lM 4)):=⟨rfl,rfl,rfl,by decide +kernel,rfl,by decide +kernel,by decide +kernel⟩
theorem ok_lo {f fE fV:Addr} {fd fdE fdV:FuncData} (F:Fun K "lose_eldest" "Lane.lose_eldest" (lM 4) f fd) (T:Txt K mg) (L:LZ K mg Z) (ME:MD K Z.l "eldest" "Lane.eldest" (lM 3) ["self"] fE fdE) (MV:MD K Z.l "leave" "Lane.leave" (lM 5) ["self","number"] fV fdV):FnOk P w K mg base CX0 2 f fd ["self"] (spLo Z):=by
 have GE:FnOk P w K mg base CX0 1 fE fdE ["self"] (spEl Z):=ok_el ME.F L
 have GV:FnOk P w K mg base CX0 1 fV fdV ["self","number"] (spLv Z):=ok_lv MV.F T L
 refine F.ok scLo (fun vs H Q E h=>?_) (fun cdv A outer s H vs Q E hr h=>?_)
 ·obtain ⟨k,n,rfl,_⟩:=h
  rfl
 ·obtain ⟨k,n,rfl,ln,hi,hl,q⟩:=h
  refine ⟨_,(pss_cons (ps_fldaug (pv 0) (pe_callB call_len_seq (by rfl) T.len bt_len (pa_cons (pe_fld (pe_ix ix_list (pe_fld (pv 0) rfl) (pe_meth0 (pv 0) L.lc ME.M GE hr ME.b .nil pass0) (fun _ _=>rfl)) rfl) pa_nil)) in_add)
   (pss_one (ps_expr (pe_meth (pv 0) L.lc MV.M GV hr MV.b .nil pass0 (pa_cons (pe_meth0 (pv 0) L.lc ME.M GE hr ME.b .nil pass0) pa_nil))))),?_⟩
  obtain ⟨dx,e⟩:=ln.ob
  have pl:=ln.pg.len
  obtain ⟨s0,hs0⟩:∃ s,k.ps[eld n]?=some s:=⟨_,List.getElem?_eq_getElem (by omega)⟩
  obtain ⟨m0,hm0,r0⟩:=ln.pg.at hs0
  obtain ⟨d0,e0⟩:=r0.ob
  have ex:(k.ps.map fun s=>V.ref s.p)[eld n]?=some (.ref s0.p):=by rw [List.getElem?_map,hs0];rfl
  have ec:(s0.cs.map V.ref).length=m0.cs.length:=by rw [List.length_map];exact r0.cs.len
  refine ⟨_,rfl,k.a,Z.l,dx,_,_,rfl,e,L.lc,L.l11,rfl,_,rfl,k.a,Z.l,dx,_,_,rfl,e,L.lc,L.l4,rfl,_,rfl,k.a,dx,_,rfl,e,rfl,k,n,rfl,ln,k.lp,_,_,_,rfl,rfl,SqL.of ln.ls,atI_nat ex,s0.p,Z.p,d0,_,_,rfl,e0,L.pc,L.p1,rfl,s0.l,_,rfl,.inl (SqL.of r0.ls),_,_,rfl,rfl,dx,_,e,(show 12<1000 by decide),?_⟩
  rw [ec]
  have ln1:=ln.setL L.ok (dx':=dx) e { n with los:=n.los+(m0.cs.length:Int) } rfl
  obtain ⟨dx1,e1⟩:=ln1.ob
  refine ⟨_,rfl,k.a,dx1,_,rfl,e1,rfl,_,rfl,k.a,dx1,_,rfl,e1,rfl,k,_,rfl,ln1,?_⟩
  refine ⟨k,_,eld n,rfl,ln1,hi,hl,fun k' H' ln' mv=>q k' H' ?_ ((Mv.ins e (.inr (.inr rfl)) LA.a_own).trans mv)⟩
  unfold loseM
  rw [hm0]
  exact ln'
end
def addPg (n:Ln):Ln:={ n with pg:=n.pg++[⟨[],0,0⟩] }
def hdU (n:Ln):Int:=(n.pg[n.pg.length-1]?.map (·.us)).getD 0
def elC (n:Ln):List Cl:=(n.pg[eld n]?.map (·.cs)).getD []
def roomM (c:Int) (n:Ln):Bool×Ln:=
 if hdU n+c≤n.room then (true,n)
 else if n.most≤(n.pg.length:Int)-eld n then
  if (!n.over || !(opn (elC n)).isEmpty)=true then (false,n) else (true,addPg (loseM n))
 else (true,addPg n)
def putCl (c:Cl) (cells:Int) (n:Ln):Ln:=match n.pg[n.pg.length-1]? with
 |none=>n
 |some h=>{ n with pg:=n.pg.set (n.pg.length-1) { h with cs:=h.cs++[c],us:=h.us+cells } }
def claimM (nm:Str) (fs:List Fld) (tm:Int) (n:Ln):Option Int×Ln:=
 let n1:Ln:={ n with last:=some tm,tks:=n.tks+1 }
 let r:=roomM (1+(fs.length:Int)) n1
 if r.1=true then (some r.2.tks,putCl (newCl r.2.tks tm nm fs) (1+(fs.length:Int)) r.2) else (none,{ r.2 with mis:=r.2.mis+1 })
theorem at_last {xs:List V} {x:V}:atI (xs++[x]) (-1)=some x:=by
 unfold atI ixN
 simp
 rw [if_pos (by omega),show (-1+((xs.length:Int)+1)).toNat=xs.length by omega]
 show (xs++[x])[xs.length]?=_
 rw [List.getElem?_append_right (by simp)]
 simp
theorem at_neg1 {xs:List V} {y:V} (h:xs[xs.length-1]?=some y):atI xs (-1)=some y:=by
 rcases List.eq_nil_or_concat xs with rfl|⟨r,x,rfl⟩
 ·simp at h
 ·rw [List.concat_eq_append] at h ⊢
  have e:(r++[x])[(r++[x]).length-1]?=some x:=by simp
  rw [e] at h
  injection h with h
  subst h
  exact at_last
theorem flat_perm:∀ {ps:List PA} {i:Nat} {s:PA} {c:Addr},ps[i]?=some s->((ps.set i { s with cs:=s.cs++[c] }).flatMap (·.cs)).Perm (c::ps.flatMap (·.cs))
 |[],_,_,_,e=>by simp at e
 | a::r,0,s,c,e=>by
   simp at e
   subst e
   rw [List.set_cons_zero,List.flatMap_cons,List.flatMap_cons]
   show (a.cs++[c]++_).Perm _
   rw [List.append_assoc]
   exact List.perm_middle
 | a::r,i+1,s,c,e=>by
   rw [List.set_cons_succ,List.flatMap_cons,List.flatMap_cons]
   exact ((flat_perm (i:=i) (by simpa using e)).append_left _).trans List.perm_middle
section
variable {P:Program} {w:World} {K:PySem.W.Frag} {mg:Str->Option Value} {base:Heap} {Z:LC}
theorem LnAt.not_ls {H:Hp} {k:LA} {n:Ln} {b:Addr} {o:HO} (h:LnAt Z H k n) (e:H b=some o) (ho:∀ xs,o≠.lst xs):b∉k.ls:=by
 intro m
 rcases List.mem_cons.mp m with rfl|m
 ·have:=h.ls;rw [e] at this;cases this;exact ho _ rfl
 ·obtain ⟨s,ms,rfl⟩:=List.mem_map.mp m
  obtain ⟨i,hi⟩:=List.mem_iff_getElem?.mp ms
  obtain ⟨y,_,r⟩:=h.pg.at hi
  have:=r.ls;rw [e] at this;cases this;exact ho _ rfl
theorem LnAt.has_ls {H:Hp} {k:LA} {n:Ln} {b:Addr} (h:LnAt Z H k n) (m:b∈k.ls):∃ xs,H b=some (.lst xs):=by
 rcases List.mem_cons.mp m with rfl|m
 ·exact ⟨_,h.ls⟩
 ·obtain ⟨s,ms,rfl⟩:=List.mem_map.mp m
  obtain ⟨i,hi⟩:=List.mem_iff_getElem?.mp ms
  obtain ⟨y,_,r⟩:=h.pg.at hi
  exact ⟨_,r.ls⟩
theorem LnAt.has_p {H:Hp} {k:LA} {n:Ln} {b:Addr} (h:LnAt Z H k n) (m:b∈k.ps.map (·.p)):∃ o,H b=some o:=by
 obtain ⟨s,ms,rfl⟩:=List.mem_map.mp m
 obtain ⟨i,hi⟩:=List.mem_iff_getElem?.mp ms
 obtain ⟨y,_,r⟩:=h.pg.at hi
 obtain ⟨dx,e⟩:=r.ob
 exact ⟨_,e⟩
theorem LnAt.has_c {H:Hp} {k:LA} {n:Ln} {b:Addr} (h:LnAt Z H k n) (m:b∈k.cs):∃ o,H b=some o:=by
 obtain ⟨s,ms,mb⟩:=List.mem_flatMap.mp m
 obtain ⟨i,hi⟩:=List.mem_iff_getElem?.mp ms
 obtain ⟨y,_,r⟩:=h.pg.at hi
 obtain ⟨j,hj⟩:=List.mem_iff_getElem?.mp mb
 obtain ⟨z,_,rz⟩:=r.cs.at hj
 obtain ⟨dx,fs,e⟩:=rz.ins
 exact ⟨_,e⟩
theorem KindAt.mv (zo:Z.Ok) {H H':Hp} {k k':LA} {n:Ln} {kd a:Addr} {nm:Str} {fi:List Fld} (h:KindAt Z.k H kd nm a fi) (ln:LnAt Z H k n) (m:Mv Z k H k' H'):KindAt Z.k H' kd nm a fi:=by
 have tk:TK H H':=fun b xs e=>m.out b _ e (ln.not_ls e (by intro _ z;cases z)) (by intro _ _ _ z;cases z)
 obtain ⟨⟨dx,e⟩,xs,e1,pf⟩:=h
 exact ⟨⟨dx,m.out _ _ e (ln.not_ls e (by intro _ z;cases z)) (by intro C dx' fs' z;cases z;exact ⟨zo.kc,zo.kp,zo.kl⟩)⟩,xs,tk _ _ e1,flds_tk pf tk⟩
theorem LnAt.grown {H H1:Hp} {k:LA} {n:Ln} {p l dx:Addr} (ln:LnAt Z H k n) (s1:Same H H1) (hp:H p=none) (hl:H l=none) (e1:H1 p=some (.ins Z.p dx (pgF l ⟨[],0,0⟩))) (e2:H1 l=some (.lst [])) :
 LnAt Z (upd H1 k.lp (.lst ((k.ps.map fun s=>V.ref s.p)++[.ref p]))) { k with ps:=k.ps++[⟨p,l,[]⟩] } (addPg n)/\Mv Z k H { k with ps:=k.ps++[⟨p,l,[]⟩] } (upd H1 k.lp (.lst ((k.ps.map fun s=>V.ref s.p)++[.ref p]))):=by
 have ln1:=ln.same s1
 have nl:l∉k.ls:=fun m=>by
  obtain ⟨xs,e⟩:=ln.has_ls m
  rw [hl] at e;cases e
 constructor
 ·have:=ln1.page (s:=⟨p,l,[]⟩) (m:=⟨[],0,0⟩) ⟨⟨dx,e1⟩,e2,.nil⟩ rfl (fun m=>by
   obtain ⟨o,e⟩:=ln.has_p m
   rw [hp] at e;cases e) nl
  rw [List.map_append] at this
  exact this
 ·refine ⟨fun c o e nc _=>?_,fun b mb=>?_,fun b e=>gr_same s1 (gr_upd ln1.ls e),rfl,rfl,fun c o e _ nc=>?_,fun b mb=>?_⟩
  ·rw [upd_ne (fun z=>nc (by rw [z];exact List.mem_cons_self ..))]
   exact s1 _ _ e
  ·rcases List.mem_cons.mp mb with rfl|mb
   ·exact .inl (List.mem_cons_self ..)
   ·rw [show ({ k with ps:=k.ps++[⟨p,l,[]⟩] }:LA).ps=k.ps++[⟨p,l,[]⟩] from rfl,List.map_append] at mb
    rcases List.mem_append.mp mb with mb|mb
    ·exact .inl (List.mem_cons_of_mem _ mb)
    ·have:b=l:=by simpa using mb
     rw [this]
     exact .inr hl
  ·rw [upd_ne (fun z=>nc (by rw [z];exact List.mem_cons_self ..))]
   exact s1 _ _ e
  ·rcases List.mem_cons.mp mb with rfl|mb
   ·exact .inl (List.mem_cons_self ..)
   ·rcases List.mem_append.mp mb with mb|mb
    ·rw [show ({ k with ps:=k.ps++[⟨p,l,[]⟩] }:LA).ps=k.ps++[⟨p,l,[]⟩] from rfl,List.map_append] at mb
     rcases List.mem_append.mp mb with mb|mb
     ·exact .inl (List.mem_cons_of_mem _ (List.mem_append.mpr (.inl mb)))
     ·have:b=p:=by simpa using mb
      rw [this]
      exact .inr hp
    ·have mb:b∈(k.ps++[(⟨p,l,[]⟩:PA)]).flatMap (fun q:PA=>q.cs):=mb
     rw [List.flatMap_append] at mb
     rcases List.mem_append.mp mb with mb|mb
     ·exact .inl (List.mem_cons_of_mem _ (List.mem_append.mpr (.inr mb)))
     ·simp at mb
def spMr (Z:LC):Sp:=fun vs H Q _=>∃ (k:LA) (n:Ln) (c:Int),vs=[.ref k.a,.int c]/\LnAt Z H k n/\n.pg≠[]/\2≤n.most/\n.pg.length≤900/\(∀ m∈n.pg,m.cs.length≤900)/\∀ k' H',LnAt Z H' k' (roomM c n).2->Mv Z k H k' H'->Q (.bl (roomM c n).1) H'
theorem scMr:FnScope ["self","cells"] ["self","cells"] (defScope (lM 2)):=⟨rfl,rfl,rfl,by decide +kernel,rfl,by decide +kernel,by decide +kernel⟩
theorem eld_le (n:Ln):eld n≤1:=by
 unfold eld
 cases n.held <;> decide
theorem lose_len (n:Ln):(loseM n).pg.length≤n.pg.length:=by
 unfold loseM leaveM
 dsimp only
 split
 ·rw [List.length_set]
  exact (List.eraseIdx_sublist _ _).length_le
 ·exact Nat.le_refl _
theorem ok_mr {f fE fU fO fI:Addr} {fd fdE fdU fdO fdI:FuncData} (F:Fun K "make_room" "Lane.make_room" (lM 2) f fd) (T:Txt K mg) (L:LZ K mg Z) (ME:MD K Z.l "eldest" "Lane.eldest" (lM 3) ["self"] fE fdE) (MU:MD K Z.p "unclosed" "Page.unclosed" (gM 1) ["self"] fU fdU) (MO:MD K Z.l "lose_eldest" "Lane.lose_eldest" (lM 4) ["self"] fO fdO) (GO:FnOk P w K mg base CX0 2 fO fdO ["self"] (spLo Z)) (MkP:Mk K Z.p fI) (FI:Fun K "__init__" "Page.__init__" (gM 0) fI fdI) (bI:Binds K fdI ["self"] []):FnOk P w K mg base CX0 3 f fd ["self","cells"] (spMr Z):=by
 have GE:FnOk P w K mg base CX0 1 fE fdE ["self"] (spEl Z):=ok_el ME.F L
 have GU:FnOk P w K mg base CX0 1 fU fdU ["self"] (spUn Z):=ok_un MU.F L
 have GI:FnOk P w K mg base CX0 1 fI fdI ["self"] (spPI Z):=ok_pi FI L
 refine F.ok scMr (fun vs H Q E h=>?_) (fun cdv A outer s H vs Q E hr h=>?_)
 ·obtain ⟨k,n,c,rfl,_⟩:=h
  rfl
 ·obtain ⟨k,n,c,rfl,ln,ne,hm,hl,hc,q⟩:=h
  have hr1:Room 1 (A.deeper (PyProof.Rows.envOfC "Lane.make_room" (defScope (lM 2)) s.heap.objs.size f cdv)):=hr.mono (by decide)
  refine ⟨_,(pss_cons (ps_if (pt_cmpR op_le (pe_op op_add (pe_fld (pe_ix ix_list (pe_fld (pv 0) rfl) (pe_un un_neg pe_int) (fun _ _=>rfl)) rfl) (pv 1)) (pe_fld (pv 0) rfl) (nomark _)) (pss_one (ps_ret pe_bl)) pss_nil)
   (pss_cons (ps_if (pt_cmpR op_ge (pe_op op_sub (pe_callB call_len_seq (by rfl) T.len bt_len (pa_cons (pe_fld (pv 0) rfl) pa_nil)) (pe_meth0 (pv 0) L.lc ME.M GE hr1 ME.b .nil pass0)) (pe_fld (pv 0) rfl) (nomark _))
    (pss_cons (ps_if (PW.pt (pw_or (pt_not (pt_val (pe_fld (pv 0) rfl))) (pw_or1 (pt_truth (pe_meth0 (pe_ix ix_list (pe_fld (pv 0) rfl) (pe_meth0 (pv 0) L.lc ME.M GE hr1 ME.b .nil pass0) (fun _ _=>rfl)) L.pc MU.M GU hr1 MU.b .nil pass0) (fun _=>rfl))))) (pss_one (ps_ret pe_bl)) pss_nil)
     (pss_one (ps_expr (pe_meth0 (pv 0) L.lc MO.M GO hr MO.b .nil pass0)))) pss_nil)
   (pss_cons (ps_expr (pe_bm PySem.F.plainAttrs_list PySem.F.slot_list_append PySem.F.type_list_append mt_append (pe_fld (pv 0) rfl) (pa_cons (pe_make0 MkP GI hr rfl L.pmg bI .nil pass0) pa_nil)))
   (pss_one (ps_ret pe_bl))))),?_⟩
  obtain ⟨dx,e⟩:=ln.ob
  have pl:=ln.pg.len
  have n0:0<n.pg.length:=List.length_pos_iff.mpr ne
  obtain ⟨s0,hs0⟩:∃ s,k.ps[k.ps.length-1]?=some s:=⟨_,List.getElem?_eq_getElem (by omega)⟩
  obtain ⟨m0,hm0,r0⟩:=ln.pg.at hs0
  rw [pl] at hm0
  obtain ⟨d0,e0⟩:=r0.ob
  have ex:(k.ps.map fun s=>V.ref s.p)[(k.ps.map fun s=>V.ref s.p).length-1]?=some (.ref s0.p):=by rw [List.length_map,List.getElem?_map,hs0];rfl
  have hu:hdU n=m0.us:=by unfold hdU;rw [hm0];rfl
  refine ⟨_,rfl,k.a,Z.l,dx,_,_,rfl,e,L.lc,L.l4,rfl,_,rfl,k.lp,_,_,_,rfl,rfl,SqL.of ln.ls,at_neg1 ex,s0.p,Z.p,d0,_,_,rfl,e0,L.pc,L.p2,rfl,_,rfl,_,_,rfl,rfl,_,rfl,k.a,Z.l,dx,_,_,rfl,e,L.lc,L.l2,rfl,_,_,rfl,rfl,_,rfl,?_⟩
  by_cases h1:m0.us+c≤n.room
  ·refine ifT (by simpa using h1) ?_
   have er:roomM c n=(true,n):=by unfold roomM;rw [hu,if_pos h1]
   rw [er] at q
   exact q k H ln Mv.refl
  refine ifF (by simpa using h1) ?_
  have el1:=eld_le n
  try dsimp only [tNext]
  refine seq_by (fun σ' H'=>σ'=[some (.ref k.a),some (.int c)]/\∃ k1 n1,LnAt Z H' k1 n1/\Mv Z k H k1 H'/\n1.pg.length≤900/\roomM c n=(true,addPg n1)) ?nx fun N hN=>?st
  case st=>
   refine ⟨_,rfl,k.a,Z.l,dx,_,_,rfl,e,L.lc,L.l4,rfl,k.lp,_,rfl,.inl (SqL.of ln.ls),_,rfl,k.a,dx,_,rfl,e,rfl,k,n,rfl,ln,_,_,rfl,rfl,_,rfl,k.a,Z.l,dx,_,_,rfl,e,L.lc,L.l1,rfl,_,_,rfl,rfl,_,rfl,?_⟩
   rw [List.length_map,pl]
   by_cases h2:n.most≤(n.pg.length:Int)-eld n
   ·refine ifT (by simpa using h2) ?_
    have hi:eld n+1<n.pg.length:=by omega
    obtain ⟨s1,hs1⟩:∃ s,k.ps[eld n]?=some s:=⟨_,List.getElem?_eq_getElem (by omega)⟩
    obtain ⟨m1,hm1,r1⟩:=ln.pg.at hs1
    obtain ⟨d1,e1⟩:=r1.ob
    have ex1:(k.ps.map fun s=>V.ref s.p)[eld n]?=some (.ref s1.p):=by rw [List.getElem?_map,hs1];rfl
    have ec:elC n=m1.cs:=by unfold elC;rw [hm1];rfl
    have er:roomM c n=if (!n.over || !(opn m1.cs).isEmpty)=true then (false,n) else (true,addPg (loseM n)):=by unfold roomM;rw [hu,if_neg h1,if_pos h2,ec]
    refine ⟨_,rfl,k.a,Z.l,dx,_,_,rfl,e,L.lc,L.l3,rfl,_,rfl,?_⟩
    cases ho:n.over with
    | false=>
      rw [ho] at er
      rw [er] at q
      exact ifT rfl (ifT rfl (q k H ln Mv.refl))
    | true=>
      rw [ho] at er
      refine ifF rfl ?_
      refine ⟨_,rfl,k.a,Z.l,dx,_,_,rfl,e,L.lc,L.l4,rfl,_,rfl,k.a,dx,_,rfl,e,rfl,k,n,rfl,ln,k.lp,_,_,_,rfl,rfl,SqL.of ln.ls,atI_nat ex1,s1.p,d1,_,rfl,e1,rfl,s1,m1,rfl,r1,?_,fun l as H2 s2 hl2 pd sb=>?_⟩
      ·rw [r1.cs.len]
       exact Nat.le_trans (hc m1 (List.mem_of_getElem? hm1)) (by decide)
      have al:=pd.len
      refine ⟨_,.inl ⟨_,SqL.of hl2,rfl⟩,?_⟩
      cases hop:opn m1.cs with
      | cons x r=>
        rw [hop] at er al
        have:(as.map V.ref).isEmpty=false:=by
         cases as with
         |nil=>cases al
         |cons _ _=>rfl
        rw [er] at q
        refine ifT (by rw [this];rfl) (q k H2 (ln.same s2) (Mv.same s2))
      | nil=>
        rw [hop] at er al
        have:(as.map V.ref).isEmpty=true:=by
         cases as with
         |nil=>rfl
         |cons _ _=>cases al
        refine ifF (by rw [this];rfl) ?_
        obtain ⟨dx2,e2⟩:=(ln.same s2).ob
        refine ⟨_,rfl,k.a,dx2,_,rfl,e2,rfl,k,n,rfl,ln.same s2,hi,by omega,fun k' H' ln' mv=>hN _ _ ⟨rfl,k',_,ln',(Mv.same s2).trans mv,Nat.le_trans (lose_len n) hl,er⟩⟩
   ·refine ifF (by simpa using h2) (hN _ _ ⟨rfl,k,n,ln,Mv.refl,hl,?_⟩)
    unfold roomM
    rw [hu,if_neg h1,if_neg h2]
  case nx=>
   rintro σ' H1 ⟨rfl,k1,n1,ln1,mv1,hl1,er⟩
   obtain ⟨dx1,e1⟩:=ln1.ob
   rw [mv1.a] at e1
   rw [er] at q
   refine ⟨_,rfl,k.a,Z.l,dx1,_,_,rfl,e1,L.lc,L.l4,rfl,.inl ⟨rfl,_,SqL.of ln1.ls⟩,fun x dx' hx hdx ndx=>?_⟩
   refine ⟨x,dx',rfl,upd_same,fun l H' hl' ho' hl'' kp=>⟨rfl,?_⟩⟩
   have s2:Same H1 H':=new_same hx hdx kp
   have hln:H1 l=none:=by
    have n1:l≠x:=fun z=>by rw [z,upd_same] at hl';cases hl'
    have n2:l≠dx':=fun z=>by rw [z,upd_ne ndx,upd_same] at hl';cases hl'
    rw [upd_ne n1,upd_ne n2] at hl'
    exact hl'
   have pl1:=ln1.pg.len
   refine ⟨k1.lp,_,_,rfl,rfl,s2 _ _ ln1.ls,by rw [List.length_map];exact Nat.lt_of_le_of_lt (show k1.ps.length≤900 by omega) (by decide),?_⟩
   obtain ⟨g1,g2⟩:=ln1.grown s2 hx hln ho' hl''
   exact q _ _ g1 (mv1.trans g2)
end
section
variable {P:Program} {w:World} {K:PySem.W.Frag} {mg:Str->Option Value} {base:Heap} {Z:LC}
theorem LnAt.addC (zo:Z.Ok) {H:Hp} {k:LA} {n:Ln} {i:Nat} {s:PA} {m:Pg} {c:Addr} {mc:Cl} (ln:LnAt Z H k n) (hs:k.ps[i]?=some s) (hm:n.pg[i]?=some m) (hc:ClAt Z H c mc) (nc:c∉k.cs) :
 LnAt Z (upd H s.l (.lst ((s.cs.map V.ref)++[.ref c]))) { k with ps:=k.ps.set i { s with cs:=s.cs++[c] } } { n with pg:=n.pg.set i { m with cs:=m.cs++[mc] } }:=by
 obtain ⟨y,ey,r⟩:=ln.pg.at hs
 rw [hm] at ey
 cases ey
 refine ln.setI hs rfl (.inl rfl) ?_ ?_ ?_ ?_ ?_
 ·refine (flat_perm hs).nodup_iff.mpr (List.nodup_cons.mpr ⟨nc,ln.n3⟩)
 ·obtain ⟨dx,e⟩:=r.ob
  refine ⟨⟨dx,?_⟩,?_,?_⟩
  ·show upd H s.l _ s.p=_
   rw [upd_ne (ne_of e r.ls (by intro z;cases z))]
   exact e
  ·show upd H s.l _ s.l=some (.lst ((s.cs++[c]).map V.ref))
   rw [upd_same,List.map_append]
   rfl
  ·refine Pd.app (.cons (hc.upd (Kt.lst r.ls) ?_) .nil) (Pd.mapM (fun b mb y q=>q.upd (Kt.lst r.ls) ?_) r.cs)
   ·obtain ⟨dx',fs',e'⟩:=hc.ins
    exact ne_of e' r.ls (by intro z;cases z)
   ·obtain ⟨dx',fs',e'⟩:=q.ins
    exact ne_of e' r.ls (by intro z;cases z)
 ·intro o e
  obtain ⟨dx,e'⟩:=ln.ob
  rw [upd_ne (ne_of e' r.ls (by intro z;cases z))]
  exact e
 ·intro o e
  rw [upd_ne (ln.ne_lp hs).symm]
  exact e
 ·intro j u v nj eu q
  exact q.updL r.ls (ln.ne_l nj eu hs)
def spCm (Z:LC):Sp:=fun vs H Q _=>∃ (k:LA) (n:Ln) (kd a:Addr) (nm:Str) (fs:List Fld) (tm:Int),vs=[.ref k.a,.ref kd,.int tm]/\LnAt Z H k n/\KindAt Z.k H kd nm a fs/\KdOk nm fs/\n.pg≠[]/\2≤n.most/\n.pg.length≤900/\(∀ m∈n.pg,m.cs.length≤900)/\(∀ t,n.last=some t->t≤tm)/\
 ∀ k' H',LnAt Z H' k' (claimM nm fs tm n).2->Mv Z k H k' H'->Q (inO (claimM nm fs tm n).1) H'
theorem scCm:FnScope ["self","kind","time","head"] ["self","kind","time"] (defScope (lM 1)):=⟨rfl,rfl,rfl,by decide +kernel,rfl,by decide +kernel,by decide +kernel⟩
theorem room_ne {c:Int} {n:Ln} (ne:n.pg≠[]) (hc:∀ m∈n.pg,m.cs.length≤900):(roomM c n).2.pg≠[]/\∀ m∈(roomM c n).2.pg,m.cs.length≤900:=by
 have ap:∀ n':Ln,(∀ m∈n'.pg,m.cs.length≤900)->(addPg n').pg≠[]/\∀ m∈(addPg n').pg,m.cs.length≤900:=fun n' h=>by
  refine ⟨by simp [addPg],fun m mm=>?_⟩
  rcases List.mem_append.mp mm with mm|mm
  ·exact h m mm
  ·cases List.mem_singleton.mp mm
   exact Nat.zero_le _
 unfold roomM
 split
 ·exact ⟨ne,hc⟩
 ·split
  ·split
   ·exact ⟨ne,hc⟩
   ·refine ap _ fun m mm=>?_
    unfold loseM leaveM at mm
    dsimp only at mm
    split at mm
    ·rename_i p q hp hq
     rcases List.mem_or_eq_of_mem_set mm with mm|rfl
     ·exact hc m ((List.eraseIdx_sublist _ _).subset mm)
     ·exact (hc q (List.mem_of_getElem? hq):q.cs.length≤900)
    ·exact hc m mm
  ·exact ap _ hc
theorem ok_cm {f fM fC fI:Addr} {fd fdM fdC fdI:FuncData} (F:Fun K "claim" "Lane.claim" (lM 1) f fd) (T:Txt K mg) (L:LZ K mg Z) (MM:MD K Z.l "make_room" "Lane.make_room" (lM 2) ["self","cells"] fM fdM) (GM:FnOk P w K mg base CX0 3 fM fdM ["self","cells"] (spMr Z)) (MC:MD K Z.k "cells" "Kind.cells" (kM 2) ["self"] fC fdC) (MkC:Mk K Z.c fI) (GI:FnOk P w K mg base CX0 6 fI fdI ["self","ticket","time","kind"] (spCI Z)) (bI:Binds K fdI ["self","ticket","time","kind"] []):FnOk P w K mg base CX0 8 f fd ["self","kind","time"] (spCm Z):=by
 have GC:FnOk P w K mg base CX0 1 fC fdC ["self"] (spCells Z.k):=ok_cells MC.F T L.kc
 refine F.ok scCm (fun vs H Q E h=>?_) (fun cdv A outer s H vs Q E hr h=>?_)
 ·obtain ⟨k,n,kd,a,nm,fs,tm,rfl,_⟩:=h
  rfl
 ·obtain ⟨k,n,kd,a,nm,fs,tm,rfl,ln,ka,ko,ne,hm,hl,hc,ht,q⟩:=h
  have hr1:Room 1 (A.deeper (PyProof.Rows.envOfC "Lane.claim" (defScope (lM 1)) s.heap.objs.size f cdv)):=hr.mono (by decide)
  have hr3:Room 3 (A.deeper (PyProof.Rows.envOfC "Lane.claim" (defScope (lM 1)) s.heap.objs.size f cdv)):=hr.mono (by decide)
  refine ⟨_,(pss_cons (ps_if (PW.pt (pw_and (pt_cmpR op_notN (pe_fld (pv 0) rfl) pe_non (nomark _)) (pw_and1 (pt_cmpR op_lt (pv 2) (pe_fld (pv 0) rfl) (nomark _))))) (pss_one ps_never) pss_nil)
   (pss_cons (ps_fld (pv 0) (pv 2) rfl)
   (pss_cons (ps_fldaug (pv 0) pe_int in_add)
   (pss_cons (ps_if (pt_not (pt_val (pe_meth (pv 0) L.lc MM.M GM hr3 MM.b .nil pass0 (pa_cons (pe_meth0 (pv 1) L.kc.cl MC.M GC hr1 MC.b .nil pass0) pa_nil)))) (pss_cons (ps_fldaug (pv 0) pe_int in_add) (pss_one (ps_ret pe_non))) pss_nil)
   (pss_cons (ps_set (i:=3) scCm.nd rfl (Or.inl rfl) (pe_ix ix_list (pe_fld (pv 0) rfl) (pe_un un_neg pe_int) (fun _ _=>rfl)))
   (pss_cons (ps_fldaug (pv 3) (pe_meth0 (pv 1) L.kc.cl MC.M GC hr1 MC.b .nil pass0) in_add)
   (pss_cons (ps_expr (pe_bm PySem.F.plainAttrs_list PySem.F.slot_list_append PySem.F.type_list_append mt_append (pe_fld (pv 3) rfl) (pa_cons (pe_make MkC GI hr rfl L.cmg bI .nil pass0 (pa_cons (pe_fld (pv 0) rfl) (pa_cons (pv 2) (pa_cons (pv 1) pa_nil)))) pa_nil)))
   (pss_one (ps_ret (pe_fld (pv 0) rfl)))))))))),?_⟩
  obtain ⟨dx,e⟩:=ln.ob
  have t1:∀ (Q':Bool->Hp->Prop),Q' false H->(tAnd (tTest (tOp (fun x y H Q=>y=.non/\Q (.bl (!decide (x=.non))) H) (tFld K (tVar 0) "last_time") (tC .non))) (tTest (tOp (rI0 fun i j=>.bl (decide (i<j))) (tVar 2) (tFld K (tVar 0) "last_time")))) [some (.ref k.a),some (.ref kd),some (.int tm),none] H Q':=by
   intro Q' q'
   refine ⟨_,rfl,k.a,Z.l,dx,_,_,rfl,e,L.lc,L.l7,rfl,rfl,_,rfl,?_⟩
   cases hla:n.last with
   |none=>exact ifF rfl q'
   | some t=>
     have:=ht t hla
     refine ifT rfl ⟨_,rfl,_,rfl,k.a,Z.l,dx,_,_,rfl,e,L.lc,L.l7,rfl,_,_,rfl,(by rw [hla];rfl),_,rfl,?_⟩
     have hd:decide (tm<t)=false:=decide_eq_false (by omega)
     rw [hd]
     exact q'
  refine t1 _ (ifF rfl ?_)
  try dsimp only [tNext]
  refine ⟨_,rfl,_,rfl,k.a,Z.l,dx,_,rfl,e,L.lc,L.l7,(show 12<1000 by decide),?_⟩
  have ln1:LnAt Z (upd H k.a (.ins Z.l dx (putF "last_time" (.int tm) (lnF k.lp n)))) k { n with last:=some tm }:=ln.setL L.ok (dx':=dx) e { n with last:=some tm } rfl
  have mv1:Mv Z k H k (upd H k.a (.ins Z.l dx (putF "last_time" (.int tm) (lnF k.lp n)))):=Mv.ins e (.inr (.inr rfl)) LA.a_own
  generalize upd H k.a (.ins Z.l dx (putF "last_time" (.int tm) (lnF k.lp n)))=H1 at ln1 mv1 ⊢
  obtain ⟨dx1,e1⟩:=ln1.ob
  refine ⟨_,rfl,k.a,Z.l,dx1,_,_,rfl,e1,L.lc,L.l8,rfl,_,_,rfl,rfl,dx1,_,e1,(show 12<1000 by decide),?_⟩
  have ln2:LnAt Z (upd H1 k.a (.ins Z.l dx1 (putF "tickets" (.int (n.tks+1)) (lnF k.lp { n with last:=some tm })))) k { n with last:=some tm,tks:=n.tks+1 }:=ln1.setL L.ok (dx':=dx1) e1 { n with last:=some tm,tks:=n.tks+1 } rfl
  have mv2:=mv1.trans (Mv.ins (o:=.ins Z.l dx1 (putF "tickets" (.int (n.tks+1)) (lnF k.lp { n with last:=some tm }))) e1 (.inr (.inr rfl)) LA.a_own)
  generalize upd H1 k.a (.ins Z.l dx1 (putF "tickets" (.int (n.tks+1)) (lnF k.lp { n with last:=some tm })))=H2 at ln2 mv2 ⊢
  generalize hn1:({ n with last:=some tm,tks:=n.tks+1 }:Ln)=n1 at ln2
  obtain ⟨dx2,e2⟩:=ln2.ob
  have ka2:=ka.mv L.ok ln mv2
  obtain ⟨⟨dk,ek⟩,_⟩:=id ka2
  refine ⟨_,rfl,k.a,dx2,_,rfl,e2,rfl,_,rfl,kd,dk,_,rfl,ek,kf_no nm a (by decide +kernel) (by decide +kernel),kd,a,nm,fs,rfl,ka2,?_⟩
  have p1:n1.pg=n.pg:=by rw [← hn1]
  refine ⟨k,n1,_,rfl,ln2,(by rw [p1];exact ne),(by rw [← hn1];exact hm),(by rw [p1];exact hl),(by rw [p1];exact hc),fun k3 H3 ln3 mv3=>⟨_,rfl,?_⟩⟩
  have q':∀ k' H',LnAt Z H' k' (if (roomM (1+(fs.length:Int)) n1).1=true then (some (roomM (1+(fs.length:Int)) n1).2.tks,putCl (newCl (roomM (1+(fs.length:Int)) n1).2.tks tm nm fs) (1+(fs.length:Int)) (roomM (1+(fs.length:Int)) n1).2) else (none,{ (roomM (1+(fs.length:Int)) n1).2 with mis:=(roomM (1+(fs.length:Int)) n1).2.mis+1 })).2->Mv Z k H k' H'->Q (inO (if (roomM (1+(fs.length:Int)) n1).1=true then (some (roomM (1+(fs.length:Int)) n1).2.tks,putCl (newCl (roomM (1+(fs.length:Int)) n1).2.tks tm nm fs) (1+(fs.length:Int)) (roomM (1+(fs.length:Int)) n1).2) else (none,{ (roomM (1+(fs.length:Int)) n1).2 with mis:=(roomM (1+(fs.length:Int)) n1).2.mis+1 })).1) H':=by
   unfold claimM at q
   rw [hn1] at q
   exact q
  clear q
  have rn:=room_ne (c:=1+(fs.length:Int)) (n:=n1) (by rw [p1];exact ne) (by rw [p1];exact hc)
  have mv3':=mv2.trans mv3
  have ka3:=ka2.mv L.ok ln2 mv3
  generalize roomM (1+(fs.length:Int)) n1=rm at ln3 rn q' ⊢
  obtain ⟨b,n3⟩:=rm
  obtain ⟨dx3,e3⟩:=ln3.ob
  rw [mv3.a] at e3
  cases b with
  | false=>
    refine ifT rfl ?_
    refine ⟨_,rfl,k.a,Z.l,dx3,_,_,rfl,e3,L.lc,L.l12,rfl,_,_,rfl,rfl,dx3,_,e3,(show 12<1000 by decide),?_⟩
    have e3':H3 k3.a=some (.ins Z.l dx3 (lnF k3.lp n3)):=by rw [mv3.a];exact e3
    have ln4:LnAt Z (upd H3 k.a (.ins Z.l dx3 (putF "missed" (.int (n3.mis+1)) (lnF k3.lp n3)))) k3 { n3 with mis:=n3.mis+1 }:=by
     have:=ln3.setL L.ok (dx':=dx3) e3' { n3 with mis:=n3.mis+1 } rfl
     rw [mv3.a] at this
     exact this
    exact q' k3 _ ln4 (mv3'.trans (Mv.ins e3 (.inr (.inr rfl)) (by rw [← mv3.a];exact LA.a_own)))
  | true=>
    refine ifF rfl ?_
    try dsimp only [tNext]
    have pl:k3.ps.length=n3.pg.length:=ln3.pg.len
    have n0:0<n3.pg.length:=List.length_pos_iff.mpr rn.1
    obtain ⟨s0,hs0⟩:∃ s,k3.ps[k3.ps.length-1]?=some s:=⟨_,List.getElem?_eq_getElem (by omega)⟩
    obtain ⟨m0,hm0,r0⟩:=ln3.pg.at hs0
    rw [pl] at hm0 hs0
    obtain ⟨d0,e0⟩:=r0.ob
    have ex:(k3.ps.map fun s=>V.ref s.p)[(k3.ps.map fun s=>V.ref s.p).length-1]?=some (.ref s0.p):=by rw [List.length_map,List.getElem?_map,pl,hs0];rfl
    refine ⟨_,rfl,k.a,Z.l,dx3,_,_,rfl,e3,L.lc,L.l4,rfl,_,rfl,k3.lp,_,_,_,rfl,rfl,SqL.of ln3.ls,at_neg1 ex,?_⟩
    obtain ⟨⟨dk3,ek3⟩,_⟩:=id ka3
    refine ⟨_,rfl,s0.p,Z.p,d0,_,_,rfl,e0,L.pc,L.p2,rfl,_,rfl,kd,dk3,_,rfl,ek3,kf_no nm a (by decide +kernel) (by decide +kernel),kd,a,nm,fs,rfl,ka3,_,_,rfl,rfl,d0,_,e0,(show 3<1000 by decide),?_⟩
    have ln4:LnAt Z (upd H3 s0.p (.ins Z.p d0 (putF "used" (.int (m0.us+(1+(fs.length:Int)))) (pgF s0.l m0)))) k3 { n3 with pg:=n3.pg.set (n3.pg.length-1) { m0 with us:=m0.us+(1+(fs.length:Int)) } }:=ln3.setP L.ok (dx':=d0) hs0 hm0 (m':={ m0 with us:=m0.us+(1+(fs.length:Int)) }) rfl
    have mv4:=mv3'.trans (Mv.ins (o:=.ins Z.p d0 (putF "used" (.int (m0.us+(1+(fs.length:Int)))) (pgF s0.l m0))) e0 (.inr (.inl rfl)) (LA.p_own hs0))
    have ka4:=ka3.mv L.ok ln3 (Mv.ins (k:=k3) (o:=.ins Z.p d0 (putF "used" (.int (m0.us+(1+(fs.length:Int)))) (pgF s0.l m0))) e0 (.inr (.inl rfl)) (LA.p_own hs0))
    generalize upd H3 s0.p (.ins Z.p d0 (putF "used" (.int (m0.us+(1+(fs.length:Int)))) (pgF s0.l m0)))=H4 at ln4 mv4 ka4 ⊢
    have hm4:({ n3 with pg:=n3.pg.set (n3.pg.length-1) { m0 with us:=m0.us+(1+(fs.length:Int)) } }:Ln).pg[n3.pg.length-1]?=some { m0 with us:=m0.us+(1+(fs.length:Int)) }:=by
     show (n3.pg.set (n3.pg.length-1) _)[n3.pg.length-1]?=_
     rw [List.getElem?_set_self (by omega)]
    obtain ⟨m4,hm4',r4⟩:=ln4.pg.at hs0
    obtain rfl:m4={ m0 with us:=m0.us+(1+(fs.length:Int)) }:=by
     have:=hm4'.symm.trans hm4
     injection this
    obtain ⟨d4,e4⟩:=r4.ob
    obtain ⟨dx4,el4⟩:=ln4.ob
    rw [mv3.a] at el4
    refine ⟨_,rfl,s0.p,Z.p,d4,_,_,rfl,e4,L.pc,L.p1,rfl,.inl ⟨rfl,_,SqL.of r4.ls⟩,_,rfl,k.a,Z.l,dx4,_,_,rfl,el4,L.lc,L.l8,rfl,_,rfl,_,rfl,fun x dx' hx hdx ndx=>?_⟩
    have s5:Same H4 (upd (upd H4 dx' (.own x)) x (.ins Z.c dx' [])):=(Same.new hdx).trans (Same.new (by rw [upd_ne ndx.symm];exact hx))
    refine ⟨x,dx',kd,a,_,tm,nm,fs,rfl,upd_same,ka4.kt (Same.kt s5),ko,fun H6 cl6 k6=>⟨rfl,?_⟩⟩
    have s6:Same H4 H6:=new_same hx hdx k6
    have ln6:=ln4.same s6
    have nc:x∉k3.cs:=fun m=>by
     obtain ⟨o,eo⟩:=ln4.has_c m
     rw [hx] at eo;cases eo
    have c9:s0.cs.length≤900:=by
     rw [r0.cs.len]
     exact rn.2 m0 (List.mem_of_getElem? hm0)
    refine ⟨s0.l,_,_,rfl,rfl,s6 _ _ r4.ls,by rw [List.length_map];exact Nat.lt_of_le_of_lt c9 (by decide),?_⟩
    have ln7:=ln6.addC L.ok hs0 hm4 cl6 nc
    have mls:s0.l∈k3.ls:=List.mem_cons_of_mem _ (List.mem_map.mpr ⟨s0,List.mem_of_getElem? hs0,rfl⟩)
    have mv7:=mv4.trans (Mv.lstN (Z:=Z) (k':={ k3 with ps:=k3.ps.set (n3.pg.length-1) { s0 with cs:=s0.cs++[x] } }) (o:=.lst ((s0.cs.map V.ref)++[.ref x])) s6 (s6 _ _ r4.ls) mls rfl (fun l ml=>.inl (by
     rcases List.mem_cons.mp ml with rfl|ml
     ·exact List.mem_cons_self ..
     ·rw [show ({ k3 with ps:=k3.ps.set (n3.pg.length-1) { s0 with cs:=s0.cs++[x] } }:LA).ps=k3.ps.set (n3.pg.length-1) { s0 with cs:=s0.cs++[x] } from rfl,map_set_same (fun x:PA=>x.l) (s':={ s0 with cs:=s0.cs++[x] }) hs0 rfl] at ml
      exact List.mem_cons_of_mem _ ml)) (fun b mb=>by
     rcases List.mem_cons.mp mb with rfl|mb
     ·exact .inl (List.mem_cons_self ..)
     ·rcases List.mem_append.mp mb with mb|mb
      ·rw [show ({ k3 with ps:=k3.ps.set (n3.pg.length-1) { s0 with cs:=s0.cs++[x] } }:LA).ps=k3.ps.set (n3.pg.length-1) { s0 with cs:=s0.cs++[x] } from rfl,map_set_same (fun x:PA=>x.p) (s':={ s0 with cs:=s0.cs++[x] }) hs0 rfl] at mb
       exact .inl (List.mem_cons_of_mem _ (List.mem_append.mpr (.inl mb)))
      ·have mb:b∈(k3.ps.set (n3.pg.length-1) { s0 with cs:=s0.cs++[x] }).flatMap (·.cs):=mb
       rcases List.mem_cons.mp ((flat_perm hs0).subset mb) with rfl|mb
       ·exact .inr hx
       ·exact .inl (List.mem_cons_of_mem _ (List.mem_append.mpr (.inr mb)))))
    obtain ⟨dx7,e7⟩:=ln7.ob
    have e7':_:=e7
    rw [show ({ k3 with ps:=k3.ps.set (n3.pg.length-1) { s0 with cs:=s0.cs++[x] } }:LA).a=k.a from mv3.a] at e7'
    refine ⟨_,rfl,k.a,Z.l,dx7,_,_,rfl,e7',L.lc,L.l8,rfl,?_⟩
    refine q' { k3 with ps:=k3.ps.set (n3.pg.length-1) { s0 with cs:=s0.cs++[x] } } _ ?_ mv7
    show LnAt Z _ _ (putCl (newCl n3.tks tm nm fs) (1+(fs.length:Int)) n3)
    unfold putCl
    rw [hm0]
    have:=ln7
    dsimp only at this
    rw [List.set_set] at this
    exact this
end
def wait (n:Ln):List Cl:=n.pg.flatMap fun p=>opn p.cs
theorem tk_snoc {α:Type} {xs:List α} {i:Nat} {x:α} (h:xs[i]?=some x):xs.take (i+1)=xs.take i++[x]:=by
 rw [List.take_add_one,h]
 rfl
theorem len_cs_le {ps:List PA} {s:PA} (m:s∈ps):s.cs.length≤(ps.flatMap (·.cs)).length:=by
 induction ps with
 |nil=>cases m
 | cons a r ih=>
   rw [List.flatMap_cons,List.length_append]
   rcases List.mem_cons.mp m with rfl|m
   ·omega
   ·have:=ih m
    omega
theorem map_at {α:Type} {f:α->V} {xs:List α} {i:Nat} {v:V} (h:(xs.map f)[i]?=some v):∃ x,xs[i]?=some x/\f x=v:=by
 rw [List.getElem?_map] at h
 cases hj:xs[i]? with
 |none=>rw [hj] at h;cases h
 |some x=>rw [hj] at h;exact ⟨x,rfl,by simpa using h⟩
section
variable {P:Program} {w:World} {K:PySem.W.Frag} {mg:Str->Option Value} {base:Heap} {Z:LC}
def spWt (Z:LC):Sp:=fun vs H Q _=>∃ (k:LA) (n:Ln),vs=[.ref k.a]/\LnAt Z H k n/\k.cs.length≤900/\n.pg.length≤900/\∀ (l:Addr) (as:List Addr) (H':Hp),Same H H'->H' l=some (.lst (as.map V.ref))->Pd (ClAt Z H') as (wait n)->as.Sublist k.cs->Q (.ref l) H'
theorem scWt:FnScope ["self"] ["self"] (defScope (lM 6)):=⟨rfl,rfl,rfl,by decide +kernel,rfl,by decide +kernel,by decide +kernel⟩
theorem ok_wt {f fU:Addr} {fd fdU:FuncData} (F:Fun K "waiting" "Lane.waiting" (lM 6) f fd) (L:LZ K mg Z) (MU:MD K Z.p "unclosed" "Page.unclosed" (gM 1) ["self"] fU fdU):FnOk P w K mg base CX0 2 f fd ["self"] (spWt Z):=by
 have GU:FnOk P w K mg base CX0 1 fU fdU ["self"] (spUn Z):=ok_un MU.F L
 refine F.ok scWt (fun vs H Q E h=>?_) (fun cdv A outer s H vs Q E hr h=>?_)
 ·obtain ⟨k,n,rfl,_⟩:=h
  rfl
 ·obtain ⟨k,n,rfl,ln,hc,hl,q⟩:=h
  refine ⟨_,(pss_one (ps_ret (pe_comp2 (g:=gName 0) (g2:=gName 1) (tt:=tYes) (tt2:=tYes) (te:=tVar 1) (wi2:=iList K (tMeth Z.p "unclosed" (spUn Z) [] E0 (tVar 0) tNil)) (own:=["page","claim"]) (js:=[]) (N':=["page","claim"]) (CompScope.of (osc:=defScope (lM 6)) (N:=["self"]) rfl rfl ⟨rfl,by decide +kernel,by decide +kernel,by decide +kernel,rfl,by decide +kernel⟩) rfl (pi_list (pe_fld (pv 0) rfl)) (fun _ _ _ _ _=>(pg_name (i:=0) (show List.Nodup (["page","claim"]:List Str) by decide +kernel) rfl (Or.inl rfl) (Or.inr rfl))) (fun _ _ _ _ _=>pifs_nil) (fun _ _ _ _ _=>pi_listK rfl (pe_meth0 (E:=E0) (pv 0) L.pc MU.M GU hr MU.b .nil pass0)) (fun _ _=>rfl) (fun _ _ _ _ _=>(pg_name (i:=1) (show List.Nodup (["page","claim"]:List Str) by decide +kernel) rfl (Or.inl rfl) (Or.inr rfl))) (fun _ _ _ _ _=>pifs_nil) (fun _ _ _ _ _=>pv 1)))),?_⟩
  obtain ⟨dx,e⟩:=ln.ob
  have pl:=ln.pg.len
  refine ⟨_,rfl,k.a,Z.l,dx,_,_,rfl,e,L.lc,L.l4,rfl,k.lp,rfl,⟨_,SqL.of ln.ls⟩,?_⟩
  refine ⟨fun i m ys σ H'=>m=k.ps.length-i/\i≤k.ps.length/\Same H H'/\(∃ u v,σ=[u,v])/\∃ as,ys=as.map V.ref/\Pd (ClAt Z H') as ((n.pg.take i).flatMap fun p=>opn p.cs)/\as.Sublist ((k.ps.take i).flatMap (·.cs)),⟨k.ps.length,by simp,Nat.zero_le _,Same.refl _,⟨none,none,rfl⟩,[],rfl,.nil,List.Sublist.refl _⟩,?_⟩
  rintro i m ys σ H1 ⟨rfl,hi,s1,⟨u,v,rfl⟩,as,rfl,pd,sb⟩
  have hls:=s1 _ _ ln.ls
  by_cases hlt:i<k.ps.length
  ·have hil:i<(k.ps.map fun s=>V.ref s.p).length:=by rw [List.length_map];exact hlt
   refine .inr ⟨⟨_,(k.ps.map fun s=>V.ref s.p)[i],SqL.of hls,List.getElem?_eq_getElem hil⟩,fun x H' y=>?_⟩
   obtain ⟨rfl,y⟩:=y
   obtain ⟨s0,hs0,rfl⟩:=map_at (y _ (SqL.of hls))
   obtain ⟨m0,hm0,r0⟩:=(ln.same s1).pg.at hs0
   obtain ⟨d0,e0⟩:=r0.ob
   dsimp only [gName,tYes,List.set]
   rw [if_pos rfl]
   have c9:s0.cs.length≤900:=Nat.le_trans (len_cs_le (List.mem_of_getElem? hs0)) hc
   refine ⟨_,rfl,s0.p,d0,_,rfl,e0,rfl,s0,m0,rfl,r0,by omega,fun l bs H2 s2 hl2 pd2 sb2=>?_⟩
   have S2:=s1.trans s2
   have all:((k.ps.take (i+1)).flatMap (·.cs)).Sublist k.cs:=flat_sub (List.take_sublist _ _)
   have al:(as++bs).length≤900:=by
    refine Nat.le_trans (List.Sublist.length_le (l₂:=k.cs) (List.Sublist.trans ?_ all)) hc
    rw [tk_snoc hs0,List.flatMap_append]
    refine sb.append ?_
    simpa using sb2
   rw [List.length_append] at al
   have big:1000≤sizeLine:=by decide
   refine ⟨l,rfl,⟨_,SqL.of hl2⟩,fun j m ys' σ' H3=>m=bs.length-j/\j≤bs.length/\H3=H2/\(∃ v,σ'=[some (.ref s0.p),v])/\ys'=(as++bs.take j).map V.ref,⟨bs.length,by simp,Nat.zero_le _,rfl,⟨_,rfl⟩,by simp⟩,?_⟩
   rintro j m ys' σ' H3 ⟨rfl,hj,rfl,⟨v',rfl⟩,rfl⟩
   by_cases hjt:j<bs.length
   ·have hjl:j<(bs.map V.ref).length:=by rw [List.length_map];exact hjt
    refine .inr ⟨⟨_,(bs.map V.ref)[j],SqL.of hl2,List.getElem?_eq_getElem hjl⟩,?_,fun x H4 y=>?_⟩
    ·rw [List.length_map,List.length_append,List.length_take]
     omega
    ·obtain ⟨rfl,y⟩:=y
     obtain ⟨c,hcj,rfl⟩:=map_at (y _ (SqL.of hl2))
     dsimp only [gName,tYes,List.set]
     rw [if_pos rfl]
     refine ⟨_,rfl,_,(by omega),rfl,hjt,rfl,⟨_,rfl⟩,?_⟩
     rw [tk_snoc hcj]
     simp
   ·have ej:j=bs.length:=by omega
    subst ej
    refine .inl ⟨⟨_,SqL.of hl2,by rw [List.length_map];exact Nat.le_refl _⟩,k.ps.length-(i+1),by omega,rfl,hlt,S2,⟨_,_,rfl⟩,as++bs,by rw [List.take_length],?_,?_⟩
    ·rw [tk_snoc hm0,List.flatMap_append]
     refine Pd.app ?_ (pd.map fun _ _ r=>r.same s2)
     simpa using pd2
    ·rw [tk_snoc hs0,List.flatMap_append]
     refine sb.append ?_
     simpa using sb2
  ·have ei:i=k.ps.length:=by omega
   subst ei
   rw [pl,List.take_length] at pd
   rw [List.take_length] at sb
   have al:=sb.length_le
   refine .inl ⟨⟨_,SqL.of hls,by rw [List.length_map];exact Nat.le_refl _⟩,by rw [List.length_map];exact Nat.le_trans (Nat.le_trans al hc) (by decide),fun p hp=>?_⟩
   have s2:=Same.new (o:=.lst (as.map V.ref)) hp
   exact q p as _ (s1.trans s2) upd_same (pd.map fun _ _ r=>r.same s2) sb
end
section
variable {P:Program} {w:World} {K:PySem.W.Frag} {mg:Str->Option Value} {base:Heap} {Z:LC}
def spWw (Z:LC):Sp:=fun vs H Q _=>∃ (k:LA) (n:Ln) (tk:Int),vs=[.ref k.a,.int tk]/\LnAt Z H k n/\k.cs.length≤900/\n.pg.length≤900/\(∃ m∈wait n,m.tk=tk)/\∀ (c:Addr) (m:Cl) (H':Hp),Same H H'->c∈k.cs->ClAt Z H' c m->m∈wait n->m.tk=tk->Q (.ref c) H'
theorem scWw:FnScope ["self","ticket","claim"] ["self","ticket"] (defScope (lM 7)):=⟨rfl,rfl,rfl,by decide +kernel,rfl,by decide +kernel,by decide +kernel⟩
theorem ok_ww {f fW:Addr} {fd fdW:FuncData} (F:Fun K "waiting_with" "Lane.waiting_with" (lM 7) f fd) (L:LZ K mg Z) (MW:MD K Z.l "waiting" "Lane.waiting" (lM 6) ["self"] fW fdW) (GW:FnOk P w K mg base CX0 2 fW fdW ["self"] (spWt Z)):FnOk P w K mg base CX0 3 f fd ["self","ticket"] (spWw Z):=by
 refine F.ok scWw (fun vs H Q E h=>?_) (fun cdv A outer s H vs Q E hr h=>?_)
 ·obtain ⟨k,n,tk,rfl,_⟩:=h
  rfl
 ·obtain ⟨k,n,tk,rfl,ln,hc,hl,⟨m0,mw,mt⟩,q⟩:=h
  refine ⟨_,(pss_cons (ps_for PassesOwn.never rfl (pi_list (pe_meth0 (E:=E0) (pv 0) L.lc MW.M GW hr MW.b .nil pass0)) (pg_name (i:=2) scWw.nd rfl (Or.inl rfl)) (pss_one (ps_if (pt_cmpR op_eq (pe_fld (pv 2) rfl) (pv 1) (nomark _)) (pss_one (ps_ret (pv 2))) pss_nil))) (pss_one ps_never)),?_⟩
  obtain ⟨dx,e⟩:=ln.ob
  refine ⟨_,rfl,k.a,dx,_,rfl,e,rfl,k,n,rfl,ln,hc,hl,fun l as H1 s1 hl1 pd sb=>?_⟩
  have wl:=pd.len
  refine ⟨l,rfl,⟨_,SqL.of hl1⟩,?_⟩
  refine for_list (K:=K) (a:=l) (xs:=as.map V.ref) (fun j σ' H'=>H'=H1/\(∃ v,σ'=[some (.ref k.a),some (.int tk),v])/\∀ m∈(wait n).take j,m.tk≠tk) ⟨rfl,⟨none,rfl⟩,by simp⟩ (fun j σ H' _ z=>by rw [z.1];exact SqL.of hl1) ?_ ?_
  ·rintro j x σ' H' hj ⟨rfl,⟨v,rfl⟩,hno⟩
   obtain ⟨c,hcj,rfl⟩:=map_at hj
   obtain ⟨m,hm,r⟩:=pd.at hcj
   obtain ⟨dc,kk,a,t,ec,_⟩:=r.ex
   dsimp only [gName,List.set]
   refine ⟨_,rfl,c,Z.c,dc,_,_,rfl,ec,L.cc,L.c1,rfl,_,rfl,rfl,_,rfl,?_⟩
   by_cases h:m.tk=tk
   ·refine ifT (by simp [h]) ⟨_,rfl,q c m _ s1 (sb.subset (List.mem_of_getElem? hcj)) r (List.mem_of_getElem? hm) h⟩
   ·refine ifF (by simp [h]) ⟨rfl,⟨_,rfl⟩,fun m' mm=>?_⟩
    rw [tk_snoc hm] at mm
    rcases List.mem_append.mp mm with mm|mm
    ·exact hno m' mm
    ·cases List.mem_singleton.mp mm
     exact h
  ·rintro σ' H' ⟨rfl,_,hno⟩
   rw [List.length_map,wl,List.take_length] at hno
   exact (hno m0 mw mt).elim
def spLw (Z:LC):Sp:=fun vs H Q _=>∃ (k:LA) (n:Ln) (tk:Int),vs=[.ref k.a,.int tk]/\LnAt Z H k n/\k.cs.length≤900/\n.pg.length≤900/\(∃ r m,wait n=r++[m]/\m.tk=tk)/\∀ (c:Addr) (m:Cl) (H':Hp),Same H H'->c∈k.cs->ClAt Z H' c m->m∈wait n->m.tk=tk->Q (.ref c) H'
theorem scLw:FnScope ["self","ticket","claim"] ["self","ticket"] (defScope (lM 8)):=⟨rfl,rfl,rfl,by decide +kernel,rfl,by decide +kernel,by decide +kernel⟩
theorem ok_lw {f fW fV:Addr} {fd fdW fdV:FuncData} (F:Fun K "last_waiting" "Lane.last_waiting" (lM 8) f fd) (L:LZ K mg Z) (MW:MD K Z.l "waiting" "Lane.waiting" (lM 6) ["self"] fW fdW) (GW:FnOk P w K mg base CX0 2 fW fdW ["self"] (spWt Z)) (MV:MD K Z.l "waiting_with" "Lane.waiting_with" (lM 7) ["self","ticket"] fV fdV) (GV:FnOk P w K mg base CX0 3 fV fdV ["self","ticket"] (spWw Z)):FnOk P w K mg base CX0 4 f fd ["self","ticket"] (spLw Z):=by
 refine F.ok scLw (fun vs H Q E h=>?_) (fun cdv A outer s H vs Q E hr h=>?_)
 ·obtain ⟨k,n,tk,rfl,_⟩:=h
  rfl
 ·obtain ⟨k,n,tk,rfl,ln,hc,hl,⟨r,m0,ew,mt⟩,q⟩:=h
  have hr2:Room 2 (A.deeper (PyProof.Rows.envOfC "Lane.last_waiting" (defScope (lM 8)) s.heap.objs.size f cdv)):=hr.mono (by decide)
  refine ⟨_,(pss_cons (ps_set (i:=2) scLw.nd rfl (Or.inl rfl) (pe_meth (E:=E0) (pv 0) L.lc MV.M GV hr MV.b .nil pass0 (pa_cons (pv 1) pa_nil)))
   (pss_cons (ps_if (pt_cmpR op_ne (pe_fld (pe_ix ix_list (pe_meth0 (E:=E0) (pv 0) L.lc MW.M GW hr2 MW.b .nil pass0) (pe_un un_neg pe_int) (fun _ _=>rfl)) rfl) (pv 1) (nomark _)) (pss_one ps_never) pss_nil) (pss_one (ps_ret (pv 2))))),?_⟩
  obtain ⟨dx,e⟩:=ln.ob
  refine ⟨_,rfl,k.a,dx,_,rfl,e,rfl,_,rfl,k,n,tk,rfl,ln,hc,hl,⟨m0,by rw [ew];simp,mt⟩,fun c m H1 s1 mc cl mm em=>?_⟩
  have ln1:=ln.same s1
  obtain ⟨dx1,e1⟩:=ln1.ob
  refine ⟨_,rfl,k.a,dx1,_,rfl,e1,rfl,k,n,rfl,ln1,hc,hl,fun l as H2 s2 hl2 pd sb=>?_⟩
  have wl:=pd.len
  have hlast:(wait n)[as.length-1]?=some m0:=by rw [wl,ew];simp
  obtain ⟨c0,hc0,r0⟩:=pd.at' hlast
  obtain ⟨dc,kk,a,t,ec,_⟩:=r0.ex
  have ex:(as.map V.ref)[(as.map V.ref).length-1]?=some (.ref c0):=by rw [List.length_map,List.getElem?_map,hc0];rfl
  refine ⟨_,rfl,l,_,_,_,rfl,rfl,SqL.of hl2,at_neg1 ex,c0,Z.c,dc,_,_,rfl,ec,L.cc,L.c1,rfl,_,rfl,rfl,_,rfl,ifF (by simp [mt]) ⟨_,rfl,q c m _ (s1.trans s2) mc (cl.same s2) mm em⟩⟩
def giveC (tk:Int) (c:Cl):Cl:=if c.tk=tk then { c with gv:=true } else c
def giveM (tk:Int) (n:Ln):Ln:={ n with pg:=n.pg.map fun p=>{ p with cs:=p.cs.map (giveC tk) },giv:=n.giv+1 }
def clms (n:Ln):List Cl:=n.pg.flatMap (·.cs)
theorem Pd.both {α β:Type} {R:α->β->Prop}:∀ {xs:List α} {ys:List β},Pd R xs ys->Pd (fun x y=>R x y/\(x,y)∈xs.zip ys) xs ys
 |_,_,.nil=>.nil
 |_,_,.cons r t=>.cons ⟨r,by simp⟩ ((Pd.both t).map fun _ _ h=>⟨h.1,by simp [h.2]⟩)
theorem Pd.mapR {α β γ:Type} {R:α->β->Prop} {R':α->γ->Prop} {g:β->γ} (h:∀ x y,R x y->R' x (g y)):∀ {xs:List α} {ys:List β},Pd R xs ys->Pd R' xs (ys.map g)
 |_,_,.nil=>.nil
 |_,_,.cons r t=>.cons (h _ _ r) (Pd.mapR h t)
theorem zip_flat:∀ {ps:List PA} {pg:List Pg},Pd (fun s m=>s.cs.length=m.cs.length) ps pg->(ps.flatMap (·.cs)).zip (pg.flatMap (·.cs))=(ps.zip pg).flatMap fun q=>q.1.cs.zip q.2.cs
 |_,_,.nil=>rfl
 | _,_,.cons r t=>by
   rw [List.flatMap_cons,List.flatMap_cons,List.zip_append r,zip_flat t]
   rfl
theorem nd_zip {α β γ:Type} {f:β->γ}:∀ {xs:List α} {ys:List β} {b c:α} {y z:β},(ys.map f).Nodup->(b,y)∈xs.zip ys->(c,z)∈xs.zip ys->f y=f z->b=c
 |[],_,_,_,_,_,_,h,_,_=>by simp at h
 |_::_,[],_,_,_,_,_,h,_,_=>by simp at h
 | a::r,w::t,b,c,y,z,nd,h1,h2,e=>by
   rw [List.map_cons] at nd
   obtain ⟨n1,n2⟩:=List.nodup_cons.mp nd
   rw [List.zip_cons_cons] at h1 h2
   rcases List.mem_cons.mp h1 with h1|h1
   ·rcases List.mem_cons.mp h2 with h2|h2
    ·cases h1;cases h2;rfl
    ·cases h1
     exact (n1 (by rw [e];exact List.mem_map.mpr ⟨z,(List.of_mem_zip h2).2,rfl⟩)).elim
   ·rcases List.mem_cons.mp h2 with h2|h2
    ·cases h2
     exact (n1 (by rw [← e];exact List.mem_map.mpr ⟨y,(List.of_mem_zip h1).2,rfl⟩)).elim
    ·exact nd_zip n2 h1 h2 e
theorem LnAt.zips {H:Hp} {k:LA} {n:Ln} (ln:LnAt Z H k n):k.cs.zip (clms n)=(k.ps.zip n.pg).flatMap fun q=>q.1.cs.zip q.2.cs:=zip_flat (ln.pg.map fun _ _ r=>r.cs.len)
theorem LnAt.at_c {H:Hp} {k:LA} {n:Ln} {c:Addr} (ln:LnAt Z H k n) (mc:c∈k.cs):∃ y,ClAt Z H c y/\(c,y)∈k.cs.zip (clms n):=by
 obtain ⟨s,ms,mb⟩:=List.mem_flatMap.mp mc
 obtain ⟨i,hi⟩:=List.mem_iff_getElem?.mp ms
 obtain ⟨m,hm,r,mz⟩:=ln.pg.both.at hi
 obtain ⟨j,hj⟩:=List.mem_iff_getElem?.mp mb
 obtain ⟨y,hy,rc,mz'⟩:=r.cs.both.at hj
 refine ⟨y,rc,?_⟩
 rw [ln.zips]
 exact List.mem_flatMap.mpr ⟨(s,m),mz,mz'⟩
theorem cl_tk {H:Hp} {c:Addr} {m y:Cl} (h1:ClAt Z H c m) (h2:ClAt Z H c y):m.tk=y.tk:=by
 obtain ⟨d,k,a,t,e,_⟩:=h1.ex
 obtain ⟨d',k',a',t',e',_⟩:=h2.ex
 rw [e] at e'
 injection e' with e'
 injection e' with _ _ e3
 injection e3 with e3
 injection e3 with _ e3
 injection e3
theorem LnAt.setC (zo:Z.Ok) {H:Hp} {k:LA} {n:Ln} {c:Addr} {m:Cl} {tk:Int} (ln:LnAt Z H k n) (mc:c∈k.cs) (hc:ClAt Z H c m) (em:m.tk=tk) (nd:((clms n).map (·.tk)).Nodup) {dx kk t:Addr} (e:H c=some (.ins Z.c dx (clF m kk t))) :
 LnAt Z (upd H c (.ins Z.c dx (clF { m with gv:=true } kk t))) k { n with pg:=n.pg.map fun p=>{ p with cs:=p.cs.map (giveC tk) } }:=by
 have kt:Kt Z H (upd H c (.ins Z.c dx (clF { m with gv:=true } kk t))):=Kt.ins e zo.kc
 obtain ⟨dl,el⟩:=ln.ob
 obtain ⟨y0,r0,z0⟩:=ln.at_c mc
 have tk0:y0.tk=tk:=(cl_tk hc r0).symm.trans em
 refine ⟨⟨dl,?_⟩,?_,?_,ln.n1,ln.n2,ln.n3⟩
 ·rw [upd_ne (fun z=>by
   rw [z,e] at el
   injection el with el
   injection el with el
   exact zo.cl el)]
  exact el
 ·rw [upd_ne (fun z=>by have:=ln.ls;rw [z,e] at this;cases this)]
  exact ln.ls
 ·have one:∀ (b:Addr) (y:Cl),ClAt Z H b y->(b,y)∈k.cs.zip (clms n)->ClAt Z (upd H c (.ins Z.c dx (clF { m with gv:=true } kk t))) b (giveC tk y):=by
   intro b y r mz
   by_cases z:b=c
   ·subst z
    obtain ⟨d',k',a',t',e',ka,et⟩:=r.ex
    have e'':=e'
    rw [e] at e''
    injection e'' with e''
    injection e'' with _ e2 e3
    have f1:m.tk=y.tk:=by injection e3 with e3;injection e3 with _ e3;injection e3
    have f2:m.tm=y.tm:=by injection e3 with _ e3;injection e3 with e3 _;injection e3 with _ e3;injection e3
    have f3:kk=k':=by injection e3 with _ e3;injection e3 with _ e3;injection e3 with e3 _;injection e3 with _ e3;injection e3
    have f4:t=t':=by injection e3 with _ e3;injection e3 with _ e3;injection e3 with _ e3;injection e3 with e3 _;injection e3 with _ e3;injection e3
    subst f3 f4
    have ey:giveC tk y={ y with gv:=true }:=by
     unfold giveC
     rw [if_pos (by rw [← f1];exact em)]
    rw [ey]
    refine ⟨dx,kk,a',t,?_,ka.kt kt,kt.tk _ _ et⟩
    rw [upd_same]
    show some (HO.ins Z.c dx [("ticket",.int m.tk),("time",.int m.tm),("form",.ref kk),("filled",.ref t),("given",.bl true)])=some (HO.ins Z.c dx [("ticket",.int y.tk),("time",.int y.tm),("form",.ref kk),("filled",.ref t),("given",.bl true)])
    rw [f1,f2]
   ·have:y.tk≠tk:=fun h=>z (nd_zip nd mz z0 (h.trans tk0.symm))
    unfold giveC
    rw [if_neg this]
    exact r.upd kt z
  refine Pd.mapR (fun s p ⟨r,mz⟩=>?_) ln.pg.both
  obtain ⟨dp,ep⟩:=r.ob
  refine ⟨⟨dp,?_⟩,?_,?_⟩
  ·rw [upd_ne (fun z=>by
    rw [z,e] at ep
    injection ep with ep
    injection ep with ep
    exact zo.cp ep)]
   exact ep
  ·rw [upd_ne (fun z=>by have:=r.ls;rw [z,e] at this;cases this)]
   exact r.ls
  ·refine Pd.mapR (fun b y ⟨rc,mz'⟩=>one b y rc ?_) r.cs.both
   rw [ln.zips]
   exact List.mem_flatMap.mpr ⟨(s,p),mz,mz'⟩
def spGv (Z:LC):Sp:=fun vs H Q _=>∃ (k:LA) (n:Ln) (tk:Int),vs=[.ref k.a,.int tk]/\LnAt Z H k n/\k.cs.length≤900/\n.pg.length≤900/\((clms n).map (·.tk)).Nodup/\(∃ r m,wait n=r++[m]/\m.tk=tk)/\∀ H',LnAt Z H' k (giveM tk n)->Mv Z k H k H'->Q .non H'
theorem scGv:FnScope ["self","ticket","claim"] ["self","ticket"] (defScope (lM 10)):=⟨rfl,rfl,rfl,by decide +kernel,rfl,by decide +kernel,by decide +kernel⟩
theorem ok_gv {f fW:Addr} {fd fdW:FuncData} (F:Fun K "give" "Lane.give" (lM 10) f fd) (L:LZ K mg Z) (MW:MD K Z.l "last_waiting" "Lane.last_waiting" (lM 8) ["self","ticket"] fW fdW) (GW:FnOk P w K mg base CX0 4 fW fdW ["self","ticket"] (spLw Z)):FnOk P w K mg base CX0 5 f fd ["self","ticket"] (spGv Z):=by
 refine F.ok scGv (fun vs H Q E h=>?_) (fun cdv A outer s H vs Q E hr h=>?_)
 ·obtain ⟨k,n,tk,rfl,_⟩:=h
  rfl
 ·obtain ⟨k,n,tk,rfl,ln,hc,hl,nd,wl,q⟩:=h
  refine ⟨_,(pss_cons (ps_set (i:=2) scGv.nd rfl (Or.inl rfl) (pe_meth (E:=E0) (pv 0) L.lc MW.M GW hr MW.b .nil pass0 (pa_cons (pv 1) pa_nil))) (pss_cons (ps_fld (pv 2) pe_bl rfl) (pss_one (ps_fldaug (pv 0) pe_int in_add)))),?_⟩
  obtain ⟨dx,e⟩:=ln.ob
  refine ⟨_,rfl,k.a,dx,_,rfl,e,rfl,_,rfl,k,n,tk,rfl,ln,hc,hl,wl,fun c m H1 s1 mc cl mm em=>?_⟩
  obtain ⟨dc,kk,a,t,ec,_⟩:=id cl.ex
  have ln1:=ln.same s1
  refine ⟨_,rfl,c,Z.c,dc,_,rfl,ec,L.cc,L.c5,(show 5<1000 by decide),?_⟩
  have ln2:LnAt Z (upd H1 c (.ins Z.c dc (putF "given" (.bl true) (clF m kk t)))) k { n with pg:=n.pg.map fun p=>{ p with cs:=p.cs.map (giveC tk) } }:=ln1.setC L.ok mc cl em nd ec
  have mv2:=(Mv.same (Z:=Z) (k:=k) s1).trans (Mv.ins (o:=.ins Z.c dc (putF "given" (.bl true) (clF m kk t))) ec (.inl rfl) (LA.c_own mc))
  generalize upd H1 c (.ins Z.c dc (putF "given" (.bl true) (clF m kk t)))=H2 at ln2 mv2 ⊢
  obtain ⟨dx2,e2⟩:=ln2.ob
  refine ⟨_,rfl,k.a,Z.l,dx2,_,_,rfl,e2,L.lc,L.l9,rfl,_,_,rfl,rfl,dx2,_,e2,(show 12<1000 by decide),?_⟩
  have ln3:LnAt Z (upd H2 k.a (.ins Z.l dx2 (putF "given_in" (.int (n.giv+1)) (lnF k.lp { n with pg:=n.pg.map fun p=>{ p with cs:=p.cs.map (giveC tk) } })))) k (giveM tk n):=ln2.setL L.ok (dx':=dx2) e2 (giveM tk n) rfl
  exact q _ ln3 (mv2.trans (Mv.ins e2 (.inr (.inr rfl)) LA.a_own))
end
def woP (tk:Int) (p:Pg):Pg:={ p with cs:=wto tk p.cs }
def lastTk (p:Pg):Option Int:=p.cs.getLast?.map (·.tk)
def subHd (tk sz:Int) (n:Ln):List Pg:=match n.pg[n.pg.length-1]? with
 |none=>n.pg
 |some h=>if lastTk h=some tk then n.pg.set (n.pg.length-1) { h with us:=h.us-sz } else n.pg
def throwM (tk sz:Int) (n:Ln):Ln:={ n with pg:=(subHd tk sz n).map (woP tk),thr:=n.thr+1 }
theorem set_walk {α:Type} (g:α->α) {xs:List α} {i:Nat} {x:α} (h:xs[i]?=some x):((xs.take i).map g++xs.drop i).set i (g x)=(xs.take (i+1)).map g++xs.drop (i+1):=by
 have il:i<xs.length:=(List.getElem?_eq_some_iff.mp h).1
 have hx:xs[i]=x:=(List.getElem?_eq_some_iff.mp h).2
 have tl:((xs.take i).map g).length=i:=by rw [List.length_map,List.length_take];omega
 rw [List.set_append_right _ _ (by omega),tl,Nat.sub_self,tk_snoc h,List.map_append,List.drop_eq_getElem_cons il,List.set_cons_zero,List.append_assoc]
 rfl
theorem at_walk {α:Type} (g:α->α) {xs:List α} {i:Nat} {x:α} (h:xs[i]?=some x):((xs.take i).map g++xs.drop i)[i]?=some x:=by
 have il:i<xs.length:=(List.getElem?_eq_some_iff.mp h).1
 have tl:((xs.take i).map g).length=i:=by rw [List.length_map,List.length_take];omega
 rw [List.getElem?_append_right (by omega),tl,Nat.sub_self,List.getElem?_drop]
 exact h
section
variable {P:Program} {w:World} {K:PySem.W.Frag} {mg:Str->Option Value} {base:Heap} {Z:LC}
theorem Mv.insN {H H1:Hp} {k k':LA} {b C dx:Addr} {fs:List (Str×V)} {o:HO} (s:Same H H1) (e:H1 b=some (.ins C dx fs)) (hc:C=Z.c∨C=Z.p∨C=Z.l) (hb:b∈k.own) (ho:∀ c∈k'.own,c∈k.own∨H c=none) (ha:k'.a=k.a) (hf:∀ l∈k'.ls,l∈k.ls∨H l=none) (hlp:k'.lp=k.lp:=by rfl):Mv Z k H k' (upd H1 b o):=by
 have m:=(Mv.same (Z:=Z) (k:=k) s).trans (Mv.ins (Z:=Z) (k:=k) (o:=o) e hc hb)
 exact ⟨m.out,hf,m.gr,ha,hlp,m.oth,ho⟩
def spTh (Z:LC):Sp:=fun vs H Q _=>∃ (k:LA) (n:Ln) (tk sz:Int),vs=[.ref k.a,.int tk]/\LnAt Z H k n/\k.cs.length≤900/\n.pg.length≤900/\(∃ r m,wait n=r++[m]/\m.tk=tk)/\(∀ m∈wait n,m.tk=tk->1+(m.fi.length:Int)=sz)/\∀ k' H',LnAt Z H' k' (throwM tk sz n)->Mv Z k H k' H'->k'.cs.Sublist k.cs->Q .non H'
theorem scTh:FnScope ["self","ticket","claim","head","page"] ["self","ticket"] (defScope (lM 11)):=⟨rfl,rfl,rfl,by decide +kernel,rfl,by decide +kernel,by decide +kernel⟩
theorem ok_th {f fW fC fO:Addr} {fd fdW fdC fdO:FuncData} (F:Fun K "throw" "Lane.throw" (lM 11) f fd) (T:Txt K mg) (L:LZ K mg Z) (MW:MD K Z.l "last_waiting" "Lane.last_waiting" (lM 8) ["self","ticket"] fW fdW) (GW:FnOk P w K mg base CX0 4 fW fdW ["self","ticket"] (spLw Z)) (MC:MD K Z.k "cells" "Kind.cells" (kM 2) ["self"] fC fdC) (MO:MD K Z.p "without" "Page.without" (gM 2) ["self","ticket"] fO fdO):FnOk P w K mg base CX0 5 f fd ["self","ticket"] (spTh Z):=by
 have GC:FnOk P w K mg base CX0 1 fC fdC ["self"] (spCells Z.k):=ok_cells MC.F T L.kc
 have GO:FnOk P w K mg base CX0 1 fO fdO ["self","ticket"] (spWo Z):=ok_wo MO.F L
 refine F.ok scTh (fun vs H Q E h=>?_) (fun cdv A outer s H vs Q E hr h=>?_)
 ·obtain ⟨k,n,tk,sz,rfl,_⟩:=h
  rfl
 ·obtain ⟨k,n,tk,sz,rfl,ln,hc,hl,wl,hsz,q⟩:=h
  have hr1:Room 1 (A.deeper (PyProof.Rows.envOfC "Lane.throw" (defScope (lM 11)) s.heap.objs.size f cdv)):=hr.mono (by decide)
  refine ⟨_,(pss_cons (ps_set (i:=2) scTh.nd rfl (Or.inl rfl) (pe_meth (E:=E0) (pv 0) L.lc MW.M GW hr MW.b .nil pass0 (pa_cons (pv 1) pa_nil)))
   (pss_cons (ps_set (i:=3) scTh.nd rfl (Or.inl rfl) (pe_ix ix_list (pe_fld (pv 0) rfl) (pe_un un_neg pe_int) (fun _ _=>rfl)))
   (pss_cons (ps_if (PW.pt (pw_and (pt_cmpR op_gt (pe_callB call_len_seq (by rfl) T.len bt_len (pa_cons (pe_fld (pv 3) rfl) pa_nil)) pe_int (nomark _)) (pw_and1 (pt_cmpR op_eq (pe_fld (pe_ix ix_list (pe_fld (pv 3) rfl) (pe_un un_neg pe_int) (fun _ _=>rfl)) rfl) (pv 1) (nomark _)))))
    (pss_one (ps_fldaug (pv 3) (pe_meth0 (E:=E0) (pe_fld (pv 2) rfl) L.kc.cl MC.M GC hr1 MC.b .nil pass0) in_sub)) pss_nil)
   (pss_cons (ps_for PassesOwn.never rfl (pi_list (pe_fld (pv 0) rfl)) (pg_name (i:=4) scTh.nd rfl (Or.inl rfl)) (pss_one (ps_fld (pv 4) (pe_meth (E:=E0) (pv 4) L.pc MO.M GO hr1 MO.b .nil pass0 (pa_cons (pv 1) pa_nil)) rfl)))
   (pss_one (ps_fldaug (pv 0) pe_int in_add)))))),?_⟩
  obtain ⟨dx,e⟩:=ln.ob
  refine ⟨_,rfl,k.a,dx,_,rfl,e,rfl,_,rfl,k,n,tk,rfl,ln,hc,hl,wl,fun c m H1 s1 mc cl mm em=>?_⟩
  have ln1:=ln.same s1
  have ne:n.pg≠[]:=fun z=>by
   obtain ⟨r,m',ew,_⟩:=wl
   unfold wait at ew
   rw [z] at ew
   simp at ew
  have esz:=hsz m mm em
  obtain ⟨dc,kk,a,t,ec,ka,_⟩:=id cl.ex
  have pl:=ln1.pg.len
  have n0:0<n.pg.length:=List.length_pos_iff.mpr ne
  obtain ⟨s0,hs0⟩:∃ s,k.ps[k.ps.length-1]?=some s:=⟨_,List.getElem?_eq_getElem (by omega)⟩
  obtain ⟨m0,hm0,r0⟩:=ln1.pg.at hs0
  rw [pl] at hm0 hs0
  obtain ⟨d0,e0⟩:=r0.ob
  obtain ⟨dx1,e1⟩:=ln1.ob
  have ex:(k.ps.map fun s=>V.ref s.p)[(k.ps.map fun s=>V.ref s.p).length-1]?=some (.ref s0.p):=by rw [List.length_map,List.getElem?_map,pl,hs0];rfl
  refine ⟨_,rfl,k.a,Z.l,dx1,_,_,rfl,e1,L.lc,L.l4,rfl,_,rfl,k.lp,_,_,_,rfl,rfl,SqL.of ln1.ls,at_neg1 ex,?_⟩
  try dsimp only [gName]
  refine seq_by (fun σ' H'=>σ'=[some (.ref k.a),some (.int tk),some (.ref c),some (.ref s0.p),none]/\LnAt Z H' k { n with pg:=subHd tk sz n }/\Mv Z k H k H') ?nx fun N hN=>?st
  case st=>
   have cl0:=r0.cs.len
   refine ⟨_,rfl,s0.p,Z.p,d0,_,_,rfl,e0,L.pc,L.p1,rfl,s0.l,_,rfl,.inl (SqL.of r0.ls),_,_,rfl,rfl,_,rfl,?_⟩
   rw [List.length_map,cl0]
   rcases List.eq_nil_or_concat m0.cs with e00|⟨r9,x9,e00⟩
   ·refine ifF (by rw [e00];rfl) (ifF rfl (hN _ _ ⟨rfl,?_,Mv.same s1⟩))
    have:subHd tk sz n=n.pg:=by
     unfold subHd
     rw [hm0]
     show (if lastTk m0=some tk then _ else n.pg)=n.pg
     rw [if_neg (by unfold lastTk;rw [e00];simp)]
    rw [this]
    exact ln1
   ·rw [List.concat_eq_append] at e00
    have h9:m0.cs[m0.cs.length-1]?=some x9:=by rw [e00];simp
    obtain ⟨c9,hc9,r9'⟩:=r0.cs.at' h9
    obtain ⟨d9,k9,a9,t9,e9,_⟩:=r9'.ex
    have ex9:(s0.cs.map V.ref)[(s0.cs.map V.ref).length-1]?=some (.ref c9):=by rw [List.length_map,List.getElem?_map,cl0,hc9];rfl
    have lt9:lastTk m0=some x9.tk:=by unfold lastTk;rw [e00];simp
    refine ifT (by rw [e00];simp) ?_
    refine ⟨_,rfl,s0.p,Z.p,d0,_,_,rfl,e0,L.pc,L.p1,rfl,_,rfl,s0.l,_,_,_,rfl,rfl,SqL.of r0.ls,at_neg1 ex9,c9,Z.c,d9,_,_,rfl,e9,L.cc,L.c1,rfl,_,rfl,rfl,_,rfl,?_⟩
    by_cases h:x9.tk=tk
    ·refine ifT (by simp [h]) ?_
     obtain ⟨⟨dk,ek⟩,_⟩:=id ka
     refine ⟨_,rfl,s0.p,Z.p,d0,_,_,rfl,e0,L.pc,L.p2,rfl,_,rfl,c,Z.c,dc,_,_,rfl,ec,L.cc,L.c3,rfl,kk,dk,_,rfl,ek,kf_no m.nm a (by decide +kernel) (by decide +kernel),kk,a,m.nm,m.fi,rfl,ka,_,_,rfl,rfl,d0,_,e0,(show 3<1000 by decide),?_⟩
     rw [esz]
     refine hN _ _ ⟨rfl,?_,(Mv.same s1).trans (Mv.ins e0 (.inr (.inl rfl)) (LA.p_own hs0))⟩
     have:subHd tk sz n=n.pg.set (n.pg.length-1) { m0 with us:=m0.us-sz }:=by
      unfold subHd
      rw [hm0]
      show (if lastTk m0=some tk then _ else n.pg)=_
      rw [if_pos (by rw [lt9,h])]
     rw [this]
     exact ln1.setP L.ok (dx':=d0) hs0 hm0 (m':={ m0 with us:=m0.us-sz }) rfl
    ·refine ifF (by simp [h]) (hN _ _ ⟨rfl,?_,Mv.same s1⟩)
     have:subHd tk sz n=n.pg:=by
      unfold subHd
      rw [hm0]
      show (if lastTk m0=some tk then _ else n.pg)=n.pg
      rw [if_neg (by rw [lt9];intro z;injection z with z;exact h z)]
     rw [this]
     exact ln1
  case nx=>
   have sl:(subHd tk sz n).length=n.pg.length:=by
    unfold subHd
    rw [hm0]
    show (if lastTk m0=some tk then _ else n.pg).length=_
    split
    ·rw [List.length_set]
    ·rfl
   clear ln1 e1 r0 e0 cl ka ec
   rintro σ' H2 ⟨rfl,ln2,mv2⟩
   generalize hpg:subHd tk sz n=pg at ln2 sl
   obtain ⟨dx2,e2⟩:=ln2.ob
   refine ⟨_,rfl,k.a,Z.l,dx2,_,_,rfl,e2,L.lc,L.l4,rfl,k.lp,rfl,⟨_,SqL.of ln2.ls⟩,?_⟩
   refine for_list (K:=K) (a:=k.lp) (xs:=k.ps.map fun s=>V.ref s.p) (fun i σ' H'=>(∃ v,σ'=[some (.ref k.a),some (.int tk),some (.ref c),some (.ref s0.p),v])/\∃ k1,k1.lp=k.lp/\(k1.ps.map fun s=>V.ref s.p)=(k.ps.map fun s=>V.ref s.p)/\k1.cs.Sublist k.cs/\LnAt Z H' k1 { n with pg:=(pg.take i).map (woP tk)++pg.drop i }/\Mv Z k H k1 H') ⟨⟨_,rfl⟩,k,rfl,rfl,List.Sublist.refl _,ln2,mv2⟩ ?_ ?_ ?_
   ·rintro i σ H' _ ⟨_,k1,h1,h2,_,l1,_⟩
    have:=l1.ls
    rw [h1,h2] at this
    exact SqL.of this
   ·rintro i x σ H3 hx ⟨⟨v,rfl⟩,k1,h1,h2,sb1,ln3,mv3⟩
    rw [← h2] at hx
    obtain ⟨s5,hs5,rfl⟩:=map_at hx
    obtain ⟨m5,hm5,r5⟩:=ln3.pg.at hs5
    obtain ⟨d5,e5⟩:=r5.ob
    have c9:s5.cs.length≤900:=Nat.le_trans (len_cs_le (List.mem_of_getElem? hs5)) (Nat.le_trans sb1.length_le hc)
    dsimp only [gName,List.set]
    refine ⟨_,rfl,s5.p,d5,_,rfl,e5,rfl,_,rfl,s5,m5,tk,rfl,r5,by omega,fun l as H4 s4 hln hl4 pd4 sb4=>?_⟩
    refine ⟨_,rfl,s5.p,Z.p,d5,_,rfl,s4 _ _ e5,L.pc,L.p1,(show 3<1000 by decide),?_⟩
    have e5':=s4 _ _ e5
    have ln4:=ln3.same s4
    have r5':=r5.same s4
    have nls:l∉k1.ls:=fun z=>by
     obtain ⟨ys,ey⟩:=ln3.has_ls z
     rw [hln] at ey;cases ey
    have pl3:=ln3.pg.len
    have hmi:pg[i]?=some m5:=by
     have il:i<pg.length:=by
      have:=(List.getElem?_eq_some_iff.mp hm5).1
      have e9:((pg.take i).map (woP tk)++pg.drop i).length=pg.length:=by simp;omega
      have this':i<((pg.take i).map (woP tk)++pg.drop i).length:=this
      omega
     have:=at_walk (woP tk) (List.getElem?_eq_getElem il)
     have h5:((pg.take i).map (woP tk)++pg.drop i)[i]?=some m5:=hm5
     rw [this] at h5
     rw [List.getElem?_eq_getElem il]
     exact h5
    have ln5:LnAt Z (upd H4 s5.p (.ins Z.p d5 (putF "claims" (.ref l) (pgF s5.l m5)))) { k1 with ps:=k1.ps.set i ⟨s5.p,l,as⟩ } { n with pg:=((pg.take i).map (woP tk)++pg.drop i).set i (woP tk m5) }:=by
     refine ln4.setI (i:=i) (s':=⟨s5.p,l,as⟩) (m':=woP tk m5) hs5 rfl (.inr nls) (ln4.n3.sublist (flat_set_sub hs5 sb4)) ?_ ?_ ?_ ?_
     ·refine ⟨⟨d5,upd_same⟩,?_,?_⟩
      ·show upd H4 s5.p _ l=_
       rw [upd_ne (ne_of hl4 e5' (by intro z;cases z))]
       exact hl4
      ·refine Pd.mapM (fun b mb y qq=>qq.upd (Kt.ins e5' L.ok.kp) fun z=>?_) pd4
       obtain ⟨d',f',e'⟩:=qq.ins
       rw [z,e5'] at e'
       injection e' with e'
       injection e' with e'
       exact L.ok.cp e'.symm
     ·intro o eo
      obtain ⟨d',e'⟩:=ln4.ob
      rw [upd_ne (fun z=>by
       rw [z,e5'] at e'
       injection e' with e'
       injection e' with e'
       exact L.ok.pl e')]
      exact eo
     ·intro o eo
      rw [upd_ne (fun z=>by have:=ln4.ls;rw [z,e5'] at this;cases this)]
      exact eo
     ·intro j u v' nj eu qq
      exact qq.updP L.ok e5' (nd_ix ln4.n1 nj (by rw [List.getElem?_map,eu];rfl) (by rw [List.getElem?_map,hs5];rfl))
    rw [set_walk (woP tk) hmi] at ln5
    refine ⟨⟨_,rfl⟩,{ k1 with ps:=k1.ps.set i ⟨s5.p,l,as⟩ },h1,?_,(flat_set_sub (s':=⟨s5.p,l,as⟩) hs5 sb4).trans sb1,ln5,mv3.trans (Mv.insN s4 e5' (.inr (.inl rfl)) (LA.p_own hs5) (fun b mb=>.inl (by
     rcases List.mem_cons.mp mb with rfl|mb
     ·exact List.mem_cons_self ..
     ·rcases List.mem_append.mp mb with mb|mb
      ·rw [show ({ k1 with ps:=k1.ps.set i ⟨s5.p,l,as⟩ }:LA).ps=k1.ps.set i ⟨s5.p,l,as⟩ from rfl,map_set_same (fun x:PA=>x.p) (s':=⟨s5.p,l,as⟩) hs5 rfl] at mb
       exact List.mem_cons_of_mem _ (List.mem_append.mpr (.inl mb))
      ·exact List.mem_cons_of_mem _ (List.mem_append.mpr (.inr ((flat_set_sub (s':=⟨s5.p,l,as⟩) hs5 sb4).subset mb))))) rfl fun b mb=>?_)⟩
    ·rw [← h2]
     exact map_set_same (fun s:PA=>V.ref s.p) (s':=⟨s5.p,l,as⟩) hs5 rfl
    ·rcases List.mem_cons.mp mb with rfl|mb
     ·exact .inl (List.mem_cons_self ..)
     ·rw [show ({ k1 with ps:=k1.ps.set i ⟨s5.p,l,as⟩ }:LA).ps=k1.ps.set i ⟨s5.p,l,as⟩ from rfl,List.map_set] at mb
      rcases List.mem_or_eq_of_mem_set mb with mb|rfl
      ·exact .inl (List.mem_cons_of_mem _ mb)
      ·exact .inr hln
   ·rintro σ H3 ⟨⟨v,rfl⟩,k1,h1,h2,sb1,ln3,mv3⟩
    have e9:(k.ps.map fun s=>V.ref s.p).length=pg.length:=by rw [List.length_map,ln2.pg.len]
    rw [e9,List.take_length,List.drop_length,List.append_nil] at ln3
    obtain ⟨dx3,e3⟩:=ln3.ob
    rw [mv3.a] at e3
    refine ⟨_,rfl,k.a,Z.l,dx3,_,_,rfl,e3,L.lc,L.l10,rfl,_,_,rfl,rfl,dx3,_,e3,(show 12<1000 by decide),?_⟩
    have e3':H3 k1.a=some (.ins Z.l dx3 (lnF k1.lp { n with pg:=pg.map (woP tk) })):=by rw [mv3.a];exact e3
    have ln4:=ln3.setL L.ok (dx':=dx3) e3' { n with pg:=pg.map (woP tk),thr:=n.thr+1 } rfl
    rw [mv3.a] at ln4
    refine q k1 _ ?_ (mv3.trans (Mv.ins e3 (.inr (.inr rfl)) (by rw [← mv3.a];exact LA.a_own))) sb1
    unfold throwM
    rw [hpg]
    exact ln4
end
def standC (f:Int->List (Int×Cl)):List Cl->Int->List (Int×Cl)
 |[],q=>f q
 |c::cs,q=>if c.gv=true then (q,c)::standC f cs (q+1) else []
def standP:List Pg->Int->List (Int×Cl)
 |[],_=>[]
 |p::r,q=>standC (standP r) p.cs (q+p.go)
def stand (n:Ln):List (Int×Cl):=standP n.pg 0
theorem standC_len {f:Int->List (Int×Cl)} {b:Nat} (h:∀ q,(f q).length≤b):∀ (cs:List Cl) (q:Int),(standC f cs q).length≤cs.length+b
 |[],q=>by have:=h q;simp only [standC,List.length_nil];omega
 | c::cs,q=>by
   have:=standC_len h cs (q+1)
   unfold standC
   split
   ·simp only [List.length_cons];omega
   ·simp
theorem standP_len:∀ (pg:List Pg) (q:Int),(standP pg q).length≤(pg.flatMap (·.cs)).length
 |[],_=>by simp [standP]
 | p::r,q=>by
   rw [List.flatMap_cons,List.length_append]
   exact standC_len (fun q'=>standP_len r q') p.cs _
inductive Tg where
 |lost (n:Int)
 |ev (pl:Int) (c:Cl)
def EvAt (H:Hp) (x:V) (q:Int×Cl):Prop:=∃ b t,x=.ref b/\H b=some (.tup [.str "event",.int q.1,.int q.2.tm,.str q.2.nm,.ref t])/\H t=some (.tup (q.2.vs.map V.int))
theorem EvAt.tk {H H':Hp} {x:V} {q:Int×Cl} (h:EvAt H x q) (k:TK H H'):EvAt H' x q:=by
 obtain ⟨b,t,e,h1,h2⟩:=h
 exact ⟨b,t,e,k _ _ h1,k _ _ h2⟩
theorem same_tk {H H':Hp} (s:Same H H'):TK H H':=fun b xs e=>s _ _ e
section
variable {P:Program} {w:World} {K:PySem.W.Frag} {mg:Str->Option Value} {base:Heap} {Z:LC}
def spTa (Z:LC):Sp:=fun vs H Q _=>∃ (c:Addr) (m:Cl) (pl:Int),vs=[.ref c,.int pl]/\ClAt Z H c m/\∀ (x:V) H',Same H H'->EvAt H' x (pl,m)->Q x H'
theorem scTa:FnScope ["self","place"] ["self","place"] (defScope (cM 1)):=⟨rfl,rfl,rfl,by decide +kernel,rfl,by decide +kernel,by decide +kernel⟩
theorem ok_ta {f:Addr} {fd:FuncData} (F:Fun K "told_at" "Claim.told_at" (cM 1) f fd) (L:LZ K mg Z):FnOk P w K mg base CX0 1 f fd ["self","place"] (spTa Z):=by
 refine F.ok scTa (fun vs H Q E h=>?_) (fun cdv A outer s H vs Q E hr h=>?_)
 ·obtain ⟨c,m,pl,rfl,_⟩:=h
  rfl
 ·obtain ⟨c,m,pl,rfl,cl,q⟩:=h
  refine ⟨_,(pss_one (ps_ret (pe_tup (pa_cons pe_str (pa_cons (pv 1) (pa_cons (pe_fld (pv 0) rfl) (pa_cons (pe_fld (pe_fld (pv 0) rfl) rfl) (pa_cons (pe_fld (pv 0) rfl) pa_nil)))))))),?_⟩
  obtain ⟨dx,kk,a,t,e,⟨⟨dk,ek⟩,_⟩,et⟩:=cl.ex
  refine ⟨_,rfl,_,rfl,c,Z.c,dx,_,_,rfl,e,L.cc,L.c2,rfl,_,rfl,c,Z.c,dx,_,_,rfl,e,L.cc,L.c3,rfl,kk,Z.k,dk,_,_,rfl,ek,L.kc.cl,L.kc.nN,kf_name m.nm a,_,rfl,c,Z.c,dx,_,_,rfl,e,L.cc,L.c4,rfl,(show 5≤sizeLine by decide),fun b hb=>?_⟩
  exact q _ _ (Same.new hb) ⟨b,t,rfl,upd_same,Same.new hb _ _ et⟩
def spSd (Z:LC):Sp:=fun vs H Q _=>∃ (k:LA) (n:Ln),vs=[.ref k.a]/\LnAt Z H k n/\k.cs.length≤900/\n.pg.length≤900/\∀ (l:Addr) (xs:List V) (H':Hp),Same H H'->H' l=some (.lst xs)->Pd (EvAt H') xs (stand n)->Q (.ref l) H'
theorem scSd:FnScope ["self","events","place","page","claim"] ["self"] (defScope (lM 12)):=⟨rfl,rfl,rfl,by decide +kernel,rfl,by decide +kernel,by decide +kernel⟩
theorem ok_sd {f fT:Addr} {fd fdT:FuncData} (F:Fun K "standing" "Lane.standing" (lM 12) f fd) (L:LZ K mg Z) (MT:MD K Z.c "told_at" "Claim.told_at" (cM 1) ["self","place"] fT fdT):FnOk P w K mg base CX0 2 f fd ["self"] (spSd Z):=by
 have GT:FnOk P w K mg base CX0 1 fT fdT ["self","place"] (spTa Z):=ok_ta MT.F L
 refine F.ok scSd (fun vs H Q E h=>?_) (fun cdv A outer s H vs Q E hr h=>?_)
 ·obtain ⟨k,n,rfl,_⟩:=h
  rfl
 ·obtain ⟨k,n,rfl,ln,hc,hl,q⟩:=h
  refine ⟨_,(pss_cons (ps_set (i:=1) scSd.nd rfl (Or.inl rfl) (pe_lst pa_nil)) (pss_cons (ps_set (i:=2) scSd.nd rfl (Or.inl rfl) pe_int)
   (pss_cons (ps_for PassesOwn.never rfl (pi_list (pe_fld (pv 0) rfl)) (pg_name (i:=3) scSd.nd rfl (Or.inl rfl)) (pss_cons (ps_aug (i:=2) scSd.nd rfl (Or.inl rfl) (pe_fld (pv 3) rfl) ip_add)
    (pss_one (ps_for PassesOwn.never rfl (pi_list (pe_fld (pv 3) rfl)) (pg_name (i:=4) scSd.nd rfl (Or.inl rfl)) (pss_cons (ps_if (pt_not (pt_val (pe_fld (pv 4) rfl))) (pss_one (ps_ret (pv 1))) pss_nil)
     (pss_cons (ps_expr (pe_bm PySem.F.plainAttrs_list PySem.F.slot_list_append PySem.F.type_list_append mt_append (pv 1) (pa_cons (pe_meth (E:=E0) (pv 4) L.cc MT.M GT hr MT.b .nil pass0 (pa_cons (pv 2) pa_nil)) pa_nil)))
     (pss_one (ps_aug (i:=2) scSd.nd rfl (Or.inl rfl) pe_int ip_add))))))))
   (pss_one (ps_ret (pv 1)))))),?_⟩
  obtain ⟨dx,e⟩:=ln.ob
  have pl:=ln.pg.len
  have cl9:(clms n).length≤900:=by
   have:k.cs.length=(clms n).length:=by
    have:∀ {ps:List PA} {pg:List Pg},Pd (PgAt Z H) ps pg->(ps.flatMap (·.cs)).length=(pg.flatMap (·.cs)).length:=by
     intro ps pg h
     induction h with
     |nil=>rfl
     |cons r _ ih=>rw [List.flatMap_cons,List.flatMap_cons,List.length_append,List.length_append,ih,r.cs.len]
    exact this ln.pg
   omega
  have sl:(stand n).length≤900:=Nat.le_trans (standP_len n.pg 0) cl9
  refine ⟨(show 0≤sizeLine by decide),fun l hlN=>?_⟩
  have big:1000≤sizeLine:=by decide
  have ln0:=ln.same (Same.new (o:=.lst []) hlN)
  obtain ⟨dx0,e0⟩:=ln0.ob
  refine ⟨_,rfl,k.a,Z.l,dx0,_,_,rfl,e0,L.lc,L.l4,rfl,k.lp,rfl,⟨_,SqL.of ln0.ls⟩,?_⟩
  refine for_list (K:=K) (a:=k.lp) (xs:=k.ps.map fun s=>V.ref s.p) (fun i σ' H'=>Same H H'/\∃ u3 u4 xs S pl,σ'=[some (.ref k.a),some (.ref l),some (.int pl),u3,u4]/\H' l=some (.lst xs)/\Pd (EvAt H') xs S/\S++standP (n.pg.drop i) pl=stand n) ⟨Same.new hlN,none,none,[],[],0,rfl,upd_same,.nil,rfl⟩ (fun i σ H' _ z=>SqL.of (z.1 _ _ ln.ls)) ?_ ?_
  ·rintro i x σ H1 hx ⟨s1,u3,u4,xs,S,pl0,rfl,hxs,pd,eS⟩
   obtain ⟨s0,hs0,rfl⟩:=map_at hx
   obtain ⟨m0,hm0,r0⟩:=(ln.same s1).pg.at hs0
   obtain ⟨d0,e0'⟩:=r0.ob
   have hd:n.pg.drop i=m0::n.pg.drop (i+1):=by
    have il:=(List.getElem?_eq_some_iff.mp hm0).1
    rw [List.drop_eq_getElem_cons il,(List.getElem?_eq_some_iff.mp hm0).2]
   rw [hd] at eS
   have eS:S++standC (standP (n.pg.drop (i+1))) m0.cs (pl0+m0.go)=stand n:=eS
   dsimp only [gName,List.set]
   refine ⟨_,rfl,_,rfl,s0.p,Z.p,d0,_,_,rfl,e0',L.pc,L.p3,rfl,_,_,rfl,rfl,?_⟩
   dsimp only [List.set]
   refine ⟨_,rfl,s0.p,Z.p,d0,_,_,rfl,e0',L.pc,L.p1,rfl,s0.l,rfl,⟨_,SqL.of r0.ls⟩,?_⟩
   have nl0:s0.l≠l:=fun z=>by
    obtain ⟨y0,_,rr⟩:=ln.pg.at hs0
    have:=rr.ls
    rw [z,hlN] at this
    cases this
   have ls0:∀ H',Same H H'->H' s0.l=some (.lst (s0.cs.map V.ref)):=fun H' s'=>by
    obtain ⟨y0,_,rr⟩:=ln.pg.at hs0
    exact s' _ _ rr.ls
   refine for_list (K:=K) (a:=s0.l) (xs:=s0.cs.map V.ref) (fun j σ' H'=>Same H H'/\∃ u4 xs S pl,σ'=[some (.ref k.a),some (.ref l),some (.int pl),some (.ref s0.p),u4]/\H' l=some (.lst xs)/\Pd (EvAt H') xs S/\S++standC (standP (n.pg.drop (i+1))) (m0.cs.drop j) pl=stand n) ⟨s1,_,xs,S,_,rfl,hxs,pd,eS⟩ (fun j σ H' _ z=>SqL.of (ls0 _ z.1)) ?_ ?_
   ·rintro j x σ H2 hx2 ⟨s2,v4,xs2,S2,pl2,rfl,hxs2,pd2,eS2⟩
    obtain ⟨c,hcj,rfl⟩:=map_at hx2
    obtain ⟨y0,hy0,rr⟩:=(ln.same s2).pg.at hs0
    have:y0=m0:=by
     have:=hy0.symm.trans hm0
     injection this
    subst this
    obtain ⟨m,hm,r⟩:=rr.cs.at hcj
    obtain ⟨dc,kk,a,t,ec,_⟩:=id r.ex
    have hdj:y0.cs.drop j=m::y0.cs.drop (j+1):=by
     have jl:=(List.getElem?_eq_some_iff.mp hm).1
     rw [List.drop_eq_getElem_cons jl,(List.getElem?_eq_some_iff.mp hm).2]
    rw [hdj] at eS2
    have eS2:S2++(if m.gv=true then (pl2,m)::standC (standP (n.pg.drop (i+1))) (y0.cs.drop (j+1)) (pl2+1) else [])=stand n:=eS2
    have sl2:S2.length≤900:=by
     have:=congrArg List.length eS2
     rw [List.length_append] at this
     omega
    have xl2:=pd2.len
    dsimp only [gName,List.set]
    refine ⟨_,rfl,c,Z.c,dc,_,_,rfl,ec,L.cc,L.c5,rfl,_,rfl,?_⟩
    cases hg:m.gv with
    | false=>
      rw [hg,if_neg (by decide),List.append_nil] at eS2
      subst eS2
      exact ifT rfl ⟨_,rfl,q l xs2 _ s2 hxs2 pd2⟩
    | true=>
      rw [hg,if_pos rfl] at eS2
      refine ifF rfl ?_
      refine ⟨_,rfl,.inl ⟨rfl,_,SqL.of hxs2⟩,_,rfl,c,dc,_,rfl,ec,rfl,_,rfl,c,m,pl2,rfl,r,fun x H3 s3 ev=>?_⟩
      refine ⟨l,xs2,_,rfl,rfl,s3 _ _ hxs2,by omega,?_⟩
      have tk4:TK H3 (upd H3 l (.lst (xs2++[x]))):=TK.lst (s3 _ _ hxs2)
      refine ⟨_,rfl,_,_,rfl,rfl,fun b o eo=>?_,_,xs2++[x],S2++[(pl2,m)],pl2+1,rfl,upd_same,Pd.app (.cons (ev.tk tk4) .nil) (pd2.map fun _ _ z=>(z.tk (same_tk s3)).tk tk4),?_⟩
      ·rw [upd_ne (ne_of_none eo hlN)]
       exact s3 _ _ (s2 _ _ eo)
      ·rw [List.append_assoc]
       exact eS2
   ·rintro σ H2 ⟨s2,v4,xs2,S2,pl2,rfl,hxs2,pd2,eS2⟩
    refine ⟨s2,_,_,xs2,S2,pl2,rfl,hxs2,pd2,?_⟩
    have:m0.cs.drop (s0.cs.map V.ref).length=[]:=by rw [List.length_map,r0.cs.len,List.drop_length]
    rw [this] at eS2
    exact eS2
  ·rintro σ H1 ⟨s1,u3,u4,xs,S,pl0,rfl,hxs,pd,eS⟩
   have:n.pg.drop (k.ps.map fun s=>V.ref s.p).length=[]:=by rw [List.length_map,pl,List.drop_length]
   rw [this] at eS
   simp only [standP,List.append_nil] at eS
   subst eS
   exact ⟨_,rfl,q l xs _ s1 hxs pd⟩
end
def tfrom:Int->List (Int×Cl)->List Tg
 |_,[]=>[]
 |pl,(q,c)::r=>if pl<q then .lost (q-pl)::.ev q c::tfrom (q+1) r else if q=pl then .ev q c::tfrom (q+1) r else tfrom pl r
def TgAt (H:Hp) (x:V):Tg->Prop
 |.lost n=>∃ b,x=.ref b/\H b=some (.tup [.str "lost",.int n])
 |.ev pl c=>EvAt H x (pl,c)
theorem TgAt.tk {H H':Hp} {x:V} {t:Tg} (h:TgAt H x t) (k:TK H H'):TgAt H' x t:=by
 cases t with
 | lost n=>
   obtain ⟨b,e,h⟩:=h
   exact ⟨b,e,k _ _ h⟩
 |ev pl c=>exact EvAt.tk h k
def wdT:Tg->Int
 |.lost n=>n
 |.ev _ _=>1
def lookM (n:Ln):List Tg:=tfrom n.told (stand n)
def nextP (p q:Pg):Pg:={ q with go:=q.go+(p.go+p.cs.length) }
def holdR (pl:Int):List Pg->Pg->List Pg
 |[],p=>[p]
 |q::r,p=>if p.go+(p.cs.length:Int)≤pl then holdR pl r (nextP p q) else p::q::r
def holdP (pl:Int):List Pg->List Pg
 |[]=>[]
 |p::r=>holdR pl r p
def HokR (pl:Int):List Pg->Pg->Prop
 |[],p=>pl<p.go+(p.cs.length:Int)
 |q::r,p=>pl<p.go+(p.cs.length:Int)∨HokR pl r (nextP p q)
def Hok (pl:Int):List Pg->Prop
 |[]=>False
 |p::r=>HokR pl r p
section
variable {P:Program} {w:World} {K:PySem.W.Frag} {mg:Str->Option Value} {base:Heap} {Z:LC}
def spTf:Sp:=fun vs H Q _=>∃ (le:Addr) (xs:List V) (es:List (Int×Cl)) (pl:Int),vs=[.ref le,.int pl]/\H le=some (.lst xs)/\Pd (EvAt H) xs es/\es.length≤900/\∀ (l:Addr) (ys:List V) (H':Hp),Same H H'->H l=none->H' l=some (.lst ys)->Pd (TgAt H') ys (tfrom pl es)->Q (.ref l) H'
theorem scTf:FnScope ["events","place","told","event"] ["events","place"] (defScope (top 30)):=⟨rfl,rfl,rfl,by decide +kernel,rfl,by decide +kernel,by decide +kernel⟩
theorem ok_tf {f:Addr} {fd:FuncData} (F:Fun K "told_from" "told_from" (top 30) f fd):FnOk P w K mg base CX0 1 f fd ["events","place"] spTf:=by
 refine F.ok scTf (fun vs H Q E h=>?_) (fun cdv A outer s H vs Q E hr h=>?_)
 ·obtain ⟨le,xs,es,pl,rfl,_⟩:=h
  rfl
 ·obtain ⟨le,xs,es,pl,rfl,hle,pe,el,q⟩:=h
  refine ⟨_,(pss_cons (ps_set (i:=2) scTf.nd rfl (Or.inl rfl) (pe_lst pa_nil))
   (pss_cons (ps_for PassesOwn.never rfl (pi_list (pv 0)) (pg_name (i:=3) scTf.nd rfl (Or.inl rfl)) (pss_cons (ps_if (pt_cmpR op_gt (pe_ix ix_tup (pv 3) pe_int (fun _ _=>rfl)) (pv 1) (nomark _)) (pss_one (ps_expr (pe_bm PySem.F.plainAttrs_list PySem.F.slot_list_append PySem.F.type_list_append mt_append (pv 2) (pa_cons (pe_tup (pa_cons pe_str (pa_cons (pe_op op_sub (pe_ix ix_tup (pv 3) pe_int (fun _ _=>rfl)) (pv 1)) pa_nil))) pa_nil)))) pss_nil)
    (pss_one (ps_if (pt_cmpR op_ge (pe_ix ix_tup (pv 3) pe_int (fun _ _=>rfl)) (pv 1) (nomark _)) (pss_cons (ps_expr (pe_bm PySem.F.plainAttrs_list PySem.F.slot_list_append PySem.F.type_list_append mt_append (pv 2) (pa_cons (pv 3) pa_nil))) (pss_one (ps_set (i:=1) scTf.nd rfl (Or.inl rfl) (pe_op op_add (pe_ix ix_tup (pv 3) pe_int (fun _ _=>rfl)) pe_int)))) pss_nil))))
   (pss_one (ps_ret (pv 2))))),?_⟩
  refine ⟨(show 0≤sizeLine by decide),fun l hlN=>?_⟩
  have big:2000≤sizeLine:=by decide
  have xl:=pe.len
  have nle:le≠l:=ne_of_none hle hlN
  refine ⟨_,rfl,le,rfl,⟨_,SqL.of (Same.new hlN _ _ hle)⟩,?_⟩
  refine for_list (K:=K) (a:=le) (xs:=xs) (fun i σ' H'=>Same H H'/\∃ u pl' ys S,σ'=[some (.ref le),some (.int pl'),some (.ref l),u]/\H' l=some (.lst ys)/\Pd (TgAt H') ys S/\S++tfrom pl' (es.drop i)=tfrom pl es/\S.length≤2*i) ⟨Same.new hlN,none,pl,[],[],rfl,upd_same,.nil,rfl,Nat.le_refl _⟩ (fun i σ H' _ z=>SqL.of (z.1 _ _ hle)) ?_ ?_
  ·rintro i x σ H1 hx ⟨s1,u,pl',ys,S,rfl,hys,pd,eS,sl⟩
   obtain ⟨⟨pq,c⟩,hq,b,t,rfl,hb0,ht0⟩:=pe.at hx
   have il:=(List.getElem?_eq_some_iff.mp hq).1
   have hd:es.drop i=(pq,c)::es.drop (i+1):=by rw [List.drop_eq_getElem_cons il,(List.getElem?_eq_some_iff.mp hq).2]
   rw [hd] at eS
   have eS:S++(if pl'<pq then Tg.lost (pq-pl')::.ev pq c::tfrom (pq+1) (es.drop (i+1)) else if pq=pl' then .ev pq c::tfrom (pq+1) (es.drop (i+1)) else tfrom pl' (es.drop (i+1)))=tfrom pl es:=eS
   have yl:=pd.len
   have hb:=s1 _ _ hb0
   have ev1:EvAt H1 (.ref b) (pq,c):=⟨b,t,rfl,hb,s1 _ _ ht0⟩
   dsimp only [gName,List.set]
   refine ⟨_,rfl,b,_,_,_,rfl,rfl,SqT.of hb,atI_nat (j:=1) rfl,_,rfl,_,_,rfl,rfl,_,rfl,?_⟩
   by_cases h1:pl'<pq
   ·refine ifT (by simpa using h1) ?_
    rw [if_pos h1] at eS
    refine ⟨_,rfl,.inl ⟨rfl,_,SqL.of hys⟩,_,rfl,b,_,_,_,rfl,rfl,SqT.of hb,atI_nat (j:=1) rfl,_,rfl,_,_,rfl,rfl,(show 2≤sizeLine by decide),fun b2 hb2=>?_⟩
    have s2:Same H1 (upd H1 b2 (.tup [.str "lost",.int (pq-pl')])):=Same.new hb2
    have h2:(upd H1 b2 (.tup [.str "lost",.int (pq-pl')])) b2=some (.tup [.str "lost",.int (pq-pl')]):=upd_same
    generalize upd H1 b2 (.tup [.str "lost",.int (pq-pl')])=H2 at s2 h2 ⊢
    refine ⟨l,ys,_,rfl,rfl,s2 _ _ hys,by omega,?_⟩
    have tk3:TK H2 (upd H2 l (.lst (ys++[.ref b2]))):=TK.lst (s2 _ _ hys)
    have s3:Same H (upd H2 l (.lst (ys++[.ref b2]))):=fun a o eo=>by
     rw [upd_ne (ne_of_none eo hlN)]
     exact s2 _ _ (s1 _ _ eo)
    have pd3:Pd (TgAt (upd H2 l (.lst (ys++[.ref b2])))) (ys++[.ref b2]) (S++[.lost (pq-pl')]):=Pd.app (.cons ⟨b2,rfl,tk3 _ _ h2⟩ .nil) (pd.map fun _ _ z=>(z.tk (same_tk s2)).tk tk3)
    have h3:(upd H2 l (.lst (ys++[.ref b2]))) l=some (.lst (ys++[.ref b2])):=upd_same
    have hb3:=tk3 _ _ (s2 _ _ hb)
    have ev3:=(ev1.tk (same_tk s2)).tk tk3
    generalize upd H2 l (.lst (ys++[.ref b2]))=H3 at s3 pd3 h3 hb3 ev3 ⊢
    try dsimp only [tNext]
    refine ⟨_,rfl,b,_,_,_,rfl,rfl,SqT.of hb3,atI_nat (j:=1) rfl,_,rfl,_,_,rfl,rfl,_,rfl,ifT (by simp;omega) ?_⟩
    refine ⟨_,rfl,.inl ⟨rfl,_,SqL.of h3⟩,_,rfl,l,_,_,rfl,rfl,h3,by rw [List.length_append];simp only [List.length_cons,List.length_nil];omega,?_⟩
    have tk4:TK H3 (upd H3 l (.lst (ys++[.ref b2]++[.ref b]))):=TK.lst h3
    refine ⟨_,rfl,b,_,_,_,rfl,rfl,SqT.of (tk4 _ _ hb3),atI_nat (j:=1) rfl,_,_,rfl,rfl,?_⟩
    refine ⟨fun a o eo=>?_,_,pq+1,ys++[.ref b2]++[.ref b],S++[.lost (pq-pl')]++[.ev pq c],rfl,upd_same,Pd.app (.cons (TgAt.tk (t:=.ev pq c) ev3 tk4) .nil) (pd3.map fun _ _ z=>z.tk tk4),?_,?_⟩
    ·rw [upd_ne (ne_of_none eo hlN)]
     exact s3 _ _ eo
    ·rw [← eS]
     simp
    ·simp only [List.length_append,List.length_cons,List.length_nil]
     omega
   ·rw [if_neg h1] at eS
    refine ifF (by simpa using h1) ?_
    try dsimp only [tNext]
    refine ⟨_,rfl,b,_,_,_,rfl,rfl,SqT.of hb,atI_nat (j:=1) rfl,_,rfl,_,_,rfl,rfl,_,rfl,?_⟩
    by_cases h2:pq=pl'
    ·rw [if_pos h2] at eS
     refine ifT (by simp;omega) ?_
     refine ⟨_,rfl,.inl ⟨rfl,_,SqL.of hys⟩,_,rfl,l,ys,_,rfl,rfl,hys,by omega,?_⟩
     have tk4:TK H1 (upd H1 l (.lst (ys++[.ref b]))):=TK.lst hys
     refine ⟨_,rfl,b,_,_,_,rfl,rfl,SqT.of (tk4 _ _ hb),atI_nat (j:=1) rfl,_,_,rfl,rfl,?_⟩
     refine ⟨fun a o eo=>?_,_,pq+1,ys++[.ref b],S++[.ev pq c],rfl,upd_same,Pd.app (.cons (TgAt.tk (t:=.ev pq c) ev1 tk4) .nil) (pd.map fun _ _ z=>z.tk tk4),?_,?_⟩
     ·rw [upd_ne (ne_of_none eo hlN)]
      exact s1 _ _ eo
     ·rw [← eS]
      simp
     ·simp only [List.length_append,List.length_cons,List.length_nil]
      omega
    ·rw [if_neg h2] at eS
     refine ifF (by simp;omega) ⟨s1,_,pl',ys,S,rfl,hys,pd,eS,by omega⟩
  ·rintro σ H1 ⟨s1,u,pl',ys,S,rfl,hys,pd,eS,sl⟩
   rw [xl,List.drop_length] at eS
   simp only [tfrom,List.append_nil] at eS
   subst eS
   exact ⟨_,rfl,q l ys _ s1 hlN hys pd⟩
def spLk (Z:LC):Sp:=fun vs H Q _=>∃ (k:LA) (n:Ln),vs=[.ref k.a]/\LnAt Z H k n/\k.cs.length≤900/\n.pg.length≤900/\(stand n).length≤900/\∀ (l:Addr) (xs:List V) (H':Hp),Same H H'->H l=none->H' l=some (.lst xs)->Pd (TgAt H') xs (lookM n)->Q (.ref l) H'
theorem scLk:FnScope ["self"] ["self"] (defScope (lM 13)):=⟨rfl,rfl,rfl,by decide +kernel,rfl,by decide +kernel,by decide +kernel⟩
theorem ok_lk {f fS fT:Addr} {fd fdS fdT:FuncData} (F:Fun K "look" "Lane.look" (lM 13) f fd) (L:LZ K mg Z) (MS:MD K Z.l "standing" "Lane.standing" (lM 12) ["self"] fS fdS) (GS:FnOk P w K mg base CX0 2 fS fdS ["self"] (spSd Z)) (DT:Def K mg "told_from" (top 30) ["events","place"] fT fdT):FnOk P w K mg base CX0 3 f fd ["self"] (spLk Z):=by
 have GT:FnOk P w K mg base CX0 1 fT fdT ["events","place"] spTf:=ok_tf DT.F
 refine F.ok scLk (fun vs H Q E h=>?_) (fun cdv A outer s H vs Q E hr h=>?_)
 ·obtain ⟨k,n,rfl,_⟩:=h
  rfl
 ·obtain ⟨k,n,rfl,ln,hc,hl,sl,q⟩:=h
  have hr1:Room 1 (A.deeper (PyProof.Rows.envOfC "Lane.look" (defScope (lM 13)) s.heap.objs.size f cdv)):=hr.mono (by decide)
  refine ⟨_,(pss_one (ps_ret (pe_call (E:=E0) GT hr1 rfl DT.mg DT.F.kp DT.b .nil pass0 (pa_cons (pe_meth0 (E:=E0) (pv 0) L.lc MS.M GS hr MS.b .nil pass0) (pa_cons (pe_fld (pv 0) rfl) pa_nil))))),?_⟩
  obtain ⟨dx,e⟩:=ln.ob
  refine ⟨_,rfl,k.a,dx,_,rfl,e,rfl,k,n,rfl,ln,hc,hl,fun l xs H1 s1 hl1 pd=>?_⟩
  refine ⟨_,rfl,k.a,Z.l,dx,_,_,rfl,s1 _ _ e,L.lc,L.l6,rfl,l,xs,_,_,rfl,hl1,pd,sl,fun l2 ys H2 s2 hn2 hl2 pd2=>q l2 ys _ (s1.trans s2) (gr_same s1 hn2) hl2 pd2⟩
def spHo (Z:LC):Sp:=fun vs H Q _=>∃ (k:LA) (n:Ln) (pl:Int),vs=[.ref k.a,.int pl]/\LnAt Z H k n/\n.pg.length≤900/\Hok pl n.pg/\∀ k' H',LnAt Z H' k' { n with pg:=holdP pl n.pg,held:=true }->Mv Z k H k' H'->Q .non H'
theorem scHo:FnScope ["self","place"] ["self","place"] (defScope (lM 15)):=⟨rfl,rfl,rfl,by decide +kernel,rfl,by decide +kernel,by decide +kernel⟩
def lenAt (H:Hp) (a:Addr):Nat:=match H a with
 |some (.lst xs)=>xs.length
 |_=>0
theorem lenAt_of {H:Hp} {a:Addr} {xs:List V} (h:H a=some (.lst xs)):lenAt H a=xs.length:=by
 unfold lenAt
 rw [h]
theorem ok_ho {f fV:Addr} {fd fdV:FuncData} (F:Fun K "hold" "Lane.hold" (lM 15) f fd) (T:Txt K mg) (L:LZ K mg Z) (MV:MD K Z.l "leave" "Lane.leave" (lM 5) ["self","number"] fV fdV):FnOk P w K mg base CX0 2 f fd ["self","place"] (spHo Z):=by
 have GV:FnOk P w K mg base CX0 1 fV fdV ["self","number"] (spLv Z):=ok_lv MV.F T L
 refine F.ok scHo (fun vs H Q E h=>?_) (fun cdv A outer s H vs Q E hr h=>?_)
 ·obtain ⟨k,n,pl,rfl,_⟩:=h
  rfl
 ·obtain ⟨k,n,pl,rfl,ln,hl,ho,q⟩:=h
  refine ⟨_,(pss_cons (ps_while PassesOwn.never (pt_cmpR op_ge (pv 1) (pe_op op_add (pe_fld (pe_ix ix_list (pe_fld (pv 0) rfl) pe_int (fun _ _=>rfl)) rfl) (pe_callB call_len_seq (by rfl) T.len bt_len (pa_cons (pe_fld (pe_ix ix_list (pe_fld (pv 0) rfl) pe_int (fun _ _=>rfl)) rfl) pa_nil))) (nomark _)) (pss_one (ps_expr (pe_meth (E:=E0) (pv 0) L.lc MV.M GV hr MV.b .nil pass0 (pa_cons pe_int pa_nil))))) (pss_one (ps_fld (pv 0) pe_bl rfl))),?_⟩
  refine while_by (fun σ' H'=>σ'=[some (.ref k.a),some (.int pl)]/\∃ k1 pg,LnAt Z H' k1 { n with pg:=pg }/\Mv Z k H k1 H'/\holdP pl pg=holdP pl n.pg/\Hok pl pg/\pg.length≤900) (fun _ H'=>lenAt H' k.lp) ⟨rfl,k,n.pg,ln,Mv.refl,rfl,ho,hl⟩ ?_ ?_
  ·rintro σ H1 ⟨rfl,k1,pg,ln1,mv1,eh,ho1,hl1⟩
   cases pg with
   |nil=>exact ho1.elim
   | cons p r=>
     obtain ⟨dx1,e1⟩:=ln1.ob
     rw [mv1.a] at e1
     obtain ⟨s0,hs0,r0⟩:=ln1.pg.at' (i:=0) (y:=p) rfl
     obtain ⟨d0,e0⟩:=r0.ob
     have ex:(k1.ps.map fun s=>V.ref s.p)[0]?=some (.ref s0.p):=by rw [List.getElem?_map,hs0];rfl
     refine ⟨_,rfl,_,rfl,k.a,Z.l,dx1,_,_,rfl,e1,L.lc,L.l4,rfl,k1.lp,_,_,_,rfl,rfl,SqL.of ln1.ls,atI_nat ex,s0.p,Z.p,d0,_,_,rfl,e0,L.pc,L.p3,rfl,_,rfl,k.a,Z.l,dx1,_,_,rfl,e1,L.lc,L.l4,rfl,k1.lp,_,_,_,rfl,rfl,SqL.of ln1.ls,atI_nat ex,s0.p,Z.p,d0,_,_,rfl,e0,L.pc,L.p1,rfl,s0.l,_,rfl,.inl (SqL.of r0.ls),_,_,rfl,rfl,_,_,rfl,rfl,_,rfl,?_⟩
     rw [List.length_map,r0.cs.len]
     by_cases h:p.go+(p.cs.length:Int)≤pl
     ·refine ifT (by simpa using h) ?_
      cases r with
      | nil=>
        have:pl<p.go+(p.cs.length:Int):=ho1
        omega
      | cons p2 r=>
        refine ⟨_,rfl,k.a,dx1,_,rfl,e1,rfl,k1,_,0,(by rw [mv1.a];rfl),ln1,by simp,Nat.le_trans hl1 (by decide),fun k2 H2 ln2 mv2=>?_⟩
        have el:leaveM 0 { n with pg:=p::p2::r }={ n with pg:=nextP p p2::r }:=rfl
        rw [el] at ln2
        have e3:holdP pl (p::p2::r)=holdP pl (nextP p p2::r):=by
         show (if p.go+(p.cs.length:Int)≤pl then holdR pl r (nextP p p2) else p::p2::r)=_
         rw [if_pos h]
         rfl
        have ho2:Hok pl (nextP p p2::r):=by
         have:pl<p.go+(p.cs.length:Int)∨HokR pl r (nextP p p2):=ho1
         rcases this with z|z
         ·omega
         ·exact z
        refine ⟨⟨rfl,k2,_,ln2,mv1.trans mv2,e3.symm.trans eh,ho2,?_⟩,?_⟩
        ·simp at hl1 ⊢
         omega
        ·have a1:=ln1.ls
         rw [mv1.lp] at a1
         have a2:=ln2.ls
         rw [mv2.lp,mv1.lp] at a2
         show lenAt H2 k.lp<lenAt H1 k.lp
         rw [lenAt_of a1,lenAt_of a2,List.length_map,List.length_map,ln1.pg.len,ln2.pg.len]
         simp
     ·refine ifF (by simpa using h) ?_
      refine ⟨_,rfl,k.a,Z.l,dx1,_,rfl,e1,L.lc,L.l5,(show 12<1000 by decide),?_⟩
      have e1':H1 k1.a=some (.ins Z.l dx1 (lnF k1.lp { n with pg:=p::r })):=by rw [mv1.a];exact e1
      have ln2:=ln1.setL L.ok (dx':=dx1) e1' { n with pg:=p::r,held:=true } rfl
      rw [mv1.a] at ln2
      have eq:holdP pl n.pg=p::r:=by
       rw [← eh]
       show holdR pl r p=_
       cases r with
       |nil=>rfl
       | cons p2 r=>
         show (if p.go+(p.cs.length:Int)≤pl then holdR pl r (nextP p p2) else p::p2::r)=_
         rw [if_neg h]
      refine q k1 _ ?_ (mv1.trans (Mv.ins e1 (.inr (.inr rfl)) (by rw [← mv1.a];exact LA.a_own)))
      rw [eq]
      exact ln2
  ·rintro σ' H' Q1 Q2 hQ ⟨x1,x2,x3,x4,x5,x6,x7,x8,x9,x10,x11,x12,x13,x14,x15,x16,x17,x18,x19,x20,x21,x22,x23,x24,x25,x26,x27,x28,x29,x30,x31,x32,x33,x34,x35,x36,x37,x38,x39,x40,x41,x42,x43,x44,x45,x46,x47,x48,x49,x50,x51,x52,x53,x54,x55,x56,x57,x58,x59,x60,x61,x62,x63,x64,x65,x66,x67,x68,x69,x70,x71,x72,x73,x74,x75,x76,rest⟩
   exact ⟨x1,x2,x3,x4,x5,x6,x7,x8,x9,x10,x11,x12,x13,x14,x15,x16,x17,x18,x19,x20,x21,x22,x23,x24,x25,x26,x27,x28,x29,x30,x31,x32,x33,x34,x35,x36,x37,x38,x39,x40,x41,x42,x43,x44,x45,x46,x47,x48,x49,x50,x51,x52,x53,x54,x55,x56,x57,x58,x59,x60,x61,x62,x63,x64,x65,x66,x67,x68,x69,x70,x71,x72,x73,x74,x75,x76,hQ _ _ rest⟩
end
theorem hokR_of (pl:Int) (c:Cl):∀ (r:List Pg) (p:Pg),(pl,c)∈standP (p::r) 0->HokR pl r p/\(holdR pl r p).flatMap (fun p=>opn p.cs)=(p::r).flatMap fun p=>opn p.cs:=by
 have inC:∀ (f:Int->List (Int×Cl)) (cs:List Cl) (q:Int),(pl,c)∈standC f cs q->pl<q+cs.length∨((pl,c)∈f (q+cs.length)/\opn cs=[]):=by
  intro f cs
  induction cs with
  | nil=>
    intro q h
    refine .inr ⟨?_,rfl⟩
    have:q+(([]:List Cl).length:Int)=q:=by simp
    rw [this]
    exact h
  | cons a r ih=>
    intro q h
    unfold standC at h
    split at h
    ·rename_i hg
     rcases List.mem_cons.mp h with h|h
     ·injection h with h1 h2
      left
      simp only [List.length_cons]
      omega
     ·rcases ih (q+1) h with h|⟨h,ho⟩
      ·left
       simp only [List.length_cons]
       omega
      ·right
       refine ⟨?_,?_⟩
       ·have e:q+((a::r).length:Int)=q+1+(r.length:Int):=by simp only [List.length_cons];omega
        rw [e]
        exact h
       ·unfold opn at ho ⊢
        rw [List.filter_cons,hg]
        exact ho
    ·cases h
 intro r
 induction r with
 | nil=>
   intro p h
   have h:(pl,c)∈standC (standP []) p.cs (0+p.go):=h
   rcases inC _ _ _ h with h|⟨h,_⟩
   ·exact ⟨by show pl<p.go+(p.cs.length:Int);omega,rfl⟩
   ·cases h
 | cons q r ih=>
   intro p h
   have h:(pl,c)∈standC (standP (q::r)) p.cs (0+p.go):=h
   by_cases hlt:pl<p.go+(p.cs.length:Int)
   ·refine ⟨.inl hlt,?_⟩
    show (if p.go+(p.cs.length:Int)≤pl then holdR pl r (nextP p q) else p::q::r).flatMap _=_
    rw [if_neg (by omega)]
   ·rcases inC _ _ _ h with h|⟨h,ho⟩
    ·omega
    ·have h2:(pl,c)∈standP (nextP p q::r) 0:=by
      show (pl,c)∈standC (standP r) q.cs (0+(q.go+(p.go+p.cs.length)))
      have h3:(pl,c)∈standC (standP r) q.cs (0+p.go+(p.cs.length:Int)+q.go):=h
      rw [show (0:Int)+(q.go+(p.go+p.cs.length))=0+p.go+(p.cs.length:Int)+q.go by omega]
      exact h3
     obtain ⟨i1,i2⟩:=ih _ h2
     refine ⟨.inr i1,?_⟩
     show (if p.go+(p.cs.length:Int)≤pl then holdR pl r (nextP p q) else p::q::r).flatMap _=_
     rw [if_pos (by omega),i2,List.flatMap_cons,List.flatMap_cons,List.flatMap_cons]
     show opn q.cs++_=opn p.cs++_
     rw [ho]
     rfl
theorem hok_of {n:Ln} {pl:Int} {c:Cl} (h:(pl,c)∈stand n):Hok pl n.pg/\(holdP pl n.pg).flatMap (fun p=>opn p.cs)=wait n:=by
 unfold stand at h
 unfold wait
 cases hp:n.pg with
 |nil=>rw [hp] at h;cases h
 | cons p r=>
   rw [hp] at h
   exact hokR_of pl c r p h
theorem tfrom_in:∀ {es:List (Int×Cl)} {pl q:Int} {c:Cl},Tg.ev q c∈tfrom pl es->(q,c)∈es
 |[],_,_,_,h=>by cases h
 | (q',c')::r,pl,q,c,h=>by
   unfold tfrom at h
   split at h
   ·rcases List.mem_cons.mp h with h|h
    ·cases h
    ·rcases List.mem_cons.mp h with h|h
     ·injection h with h1 h2
      subst h1 h2
      exact List.mem_cons_self ..
     ·exact List.mem_cons_of_mem _ (tfrom_in h)
   ·split at h
    ·rcases List.mem_cons.mp h with h|h
     ·injection h with h1 h2
      subst h1 h2
      exact List.mem_cons_self ..
     ·exact List.mem_cons_of_mem _ (tfrom_in h)
    ·exact List.mem_cons_of_mem _ (tfrom_in h)
def takeM (n:Ln):Option Tg×Ln:=match lookM n with
 |[]=>(none,n)
 |.lost m::_=>(some (.lost m),{ n with told:=n.told+m })
 |.ev pl c::_=>(some (.ev pl c),{ n with pg:=holdP pl n.pg,held:=true,told:=n.told+1 })
section
variable {P:Program} {w:World} {K:PySem.W.Frag} {mg:Str->Option Value} {base:Heap} {Z:LC}
def spPb (K:Frag):Sp:=fun vs H Q _=>∃ (pl:Int) (q:Addr) (x:V) (th:Tg),vs=[.int pl,.ref q]/\SqL K H q [x]/\TgAt H x th/\Q (.int (pl+wdT th)) H
theorem scPb:FnScope ["place","told","thing"] ["place","told"] (defScope (top 31)):=⟨rfl,rfl,rfl,by decide +kernel,rfl,by decide +kernel,by decide +kernel⟩
theorem ok_pb {f:Addr} {fd:FuncData} (F:Fun K "place_behind" "place_behind" (top 31) f fd):FnOk P w K mg base CX0 1 f fd ["place","told"] (spPb K):=by
 refine F.ok scPb (fun vs H Q E h=>?_) (fun cdv A outer s H vs Q E hr h=>?_)
 ·obtain ⟨pl,q,x,th,rfl,_⟩:=h
  rfl
 ·obtain ⟨pl,q,x,th,rfl,sq,ta,k⟩:=h
  refine ⟨_,(pss_cons
 (ps_for PassesOwn.never rfl (pi_list (pv 1)) (pg_name (i:=2) scPb.nd rfl (Or.inl rfl)) (pss_one
  (ps_aug (i:=0) scPb.nd rfl (Or.inl rfl) (pe_ifExp (pt_cmpR op_eq (pe_ix ix_tup (pv 2) pe_int (fun _ _=>rfl)) pe_str (nomark _)) (pe_ix ix_tup (pv 2) pe_int (fun _ _=>rfl)) pe_int) ip_add)))
 (pss_one (ps_ret (pv 0)))),?_⟩
  refine ⟨_,rfl,q,rfl,⟨_,sq⟩,?_⟩
  refine for_list (K:=K) (a:=q) (xs:=[x]) (fun i σ' H'=>H'=H/\(∃ u,σ'=[some (.int (if i=0 then pl else pl+wdT th)),some (.ref q),u])) ⟨rfl,none,rfl⟩ (fun i σ' H' _ ⟨e,_⟩=>by rw [e];exact sq) ?_ ?_
  ·rintro i y σ' H' hy ⟨rfl,u,rfl⟩
   match i,hy with
   | 0,hy=>
     have hy:x=y:=by simpa using hy
     subst hy
     cases th with
     | lost n=>
       obtain ⟨a,rfl,ha⟩:=ta
       refine ⟨_,rfl,_,rfl,a,_,_,_,rfl,rfl,SqT.of ha,atI_nat (j:=0) rfl,rfl,_,rfl,ifT (by simp) ?_⟩
       refine ⟨_,rfl,a,_,_,_,rfl,rfl,SqT.of ha,atI_nat (j:=1) rfl,_,_,rfl,rfl,rfl,_,rfl⟩
     | ev p c=>
       obtain ⟨a,t,rfl,ha,_⟩:=ta
       refine ⟨_,rfl,_,rfl,a,_,_,_,rfl,rfl,SqT.of ha,atI_nat (j:=0) rfl,rfl,_,rfl,ifF (by decide +kernel) ?_⟩
       refine ⟨_,_,rfl,rfl,rfl,_,rfl⟩
   |i+1,hy=>simp at hy
  ·rintro σ' H' ⟨rfl,u,rfl⟩
   exact ⟨_,rfl,k⟩
def spTk (Z:LC):Sp:=fun vs H Q _=>∃ (k:LA) (n:Ln),vs=[.ref k.a]/\LnAt Z H k n/\k.cs.length≤900/\n.pg.length≤900/\(stand n).length≤900/\∀ (x:V) k' H',LnAt Z H' k' (takeM n).2->Mv Z k H k' H'->(match (takeM n).1 with|none=>x=.non|some t=>TgAt H' x t)->Q x H'
theorem scTk:FnScope ["self","told"] ["self"] (defScope (lM 14)):=⟨rfl,rfl,rfl,by decide +kernel,rfl,by decide +kernel,by decide +kernel⟩
theorem LnAt.tks (zo:Z.Ok) {H H':Hp} {k k':LA} {n:Ln} (ln:LnAt Z H k n) (m:Mv Z k H k' H'):TK H H':=fun b xs e=>m.out b _ e (ln.not_ls e (by intro _ z;cases z)) (by intro _ _ _ z;cases z)
theorem cut1 (xs:List V):cutV xs none (some 1)=xs.take 1:=by
 cases xs with
 |nil=>decide
 | cons x r=>
   show ((x::r).drop (HT.sIx _ 0 none)).take (HT.sIx _ _ (some ((1:Nat):Int))-HT.sIx _ 0 none)=_
   rw [HT.sIx_none,HT.sIx_nat,List.drop_zero,Nat.sub_zero]
   simp
theorem ok_tk {f fL fH fB:Addr} {fd fdL fdH fdB:FuncData} (F:Fun K "take" "Lane.take" (lM 14) f fd) (T:Txt K mg) (L:LZ K mg Z) (ML:MD K Z.l "look" "Lane.look" (lM 13) ["self"] fL fdL) (GL:FnOk P w K mg base CX0 3 fL fdL ["self"] (spLk Z)) (MH:MD K Z.l "hold" "Lane.hold" (lM 15) ["self","place"] fH fdH) (GH:FnOk P w K mg base CX0 2 fH fdH ["self","place"] (spHo Z)) (DB:Def K mg "place_behind" (top 31) ["place","told"] fB fdB):FnOk P w K mg base CX0 4 f fd ["self"] (spTk Z):=by
 have GB:FnOk P w K mg base CX0 1 fB fdB ["place","told"] (spPb K):=ok_pb DB.F
 refine F.ok scTk (fun vs H Q E h=>?_) (fun cdv A outer s H vs Q E hr h=>?_)
 ·obtain ⟨k,n,rfl,_⟩:=h
  rfl
 ·obtain ⟨k,n,rfl,ln,hc,hl,sl,q⟩:=h
  have hr1:Room 1 (A.deeper (PyProof.Rows.envOfC "Lane.take" (defScope (lM 14)) s.heap.objs.size f cdv)):=hr.mono (by decide)
  have hr2:Room 2 (A.deeper (PyProof.Rows.envOfC "Lane.take" (defScope (lM 14)) s.heap.objs.size f cdv)):=hr.mono (by decide)
  refine ⟨_,(pss_cons (ps_set (i:=1) scTk.nd rfl (Or.inl rfl) (pe_meth0 (E:=E0) (pv 0) L.lc ML.M GL hr ML.b .nil pass0))
   (pss_cons (ps_if (pt_cmpR op_eq (pe_callB call_len_seq (by rfl) T.len bt_len (pa_cons (pv 1) pa_nil)) pe_int (nomark _)) (pss_one (ps_ret pe_non)) pss_nil)
   (pss_cons (ps_if (pt_cmpR op_eq (pe_ix ix_tup (pe_ix ix_list (pv 1) pe_int (fun _ _=>rfl)) pe_int (fun _ _=>rfl)) pe_str (nomark _)) (pss_one (ps_expr (pe_meth (E:=E0) (pv 0) L.lc MH.M GH hr2 MH.b .nil pass0 (pa_cons (pe_ix ix_tup (pe_ix ix_list (pv 1) pe_int (fun _ _=>rfl)) pe_int (fun _ _=>rfl)) pa_nil)))) pss_nil)
   (pss_cons (ps_fld (pv 0) (pe_call (E:=E0) GB hr1 rfl DB.mg DB.F.kp DB.b .nil pass0 (pa_cons (pe_fld (pv 0) rfl) (pa_cons (pe_slice sl_list (pv 1) po_none (po_some pe_int)) pa_nil))) rfl)
   (pss_one (ps_ret (pe_ix ix_list (pv 1) pe_int (fun _ _=>rfl)))))))),?_⟩
  obtain ⟨dx,e⟩:=ln.ob
  refine ⟨_,rfl,k.a,dx,_,rfl,e,rfl,k,n,rfl,ln,hc,hl,sl,fun l xs H1 s1 hlN hl1 pd=>?_⟩
  have ln1:=ln.same s1
  have mv1:Mv Z k H k H1:=Mv.same s1
  refine ⟨_,rfl,l,_,rfl,.inl (SqL.of hl1),rfl,_,rfl,?_⟩
  cases hlk:lookM n with
  | nil=>
    rw [hlk] at pd
    cases pd
    have et:takeM n=(none,n):=by unfold takeM;rw [hlk]
    rw [et] at q
    exact ifT rfl (q .non k H1 ln1 mv1 rfl)
  | cons t r=>
    rw [hlk] at pd
    cases pd with
    |@cons x _ xs' _ tx pd'=>
    refine ifF (by simp;omega) ?_
    try dsimp only [tNext]
    refine seq_by (fun σ' H'=>σ'=[some (.ref k.a),some (.ref l)]/\∃ k2 n2,LnAt Z H' k2 n2/\Mv Z k H k2 H'/\H' l=some (.lst (x::xs'))/\TgAt H' x t/\n2.told=n.told/\takeM n=(some t,{ n2 with told:=n2.told+wdT t })) ?nx fun N hN=>?st
    case st=>
     cases t with
     | lost m=>
       obtain ⟨b,rfl,hb⟩:=id tx
       refine ⟨_,rfl,l,_,_,_,rfl,rfl,SqL.of hl1,atI_nat (j:=0) rfl,b,_,_,_,rfl,rfl,SqT.of hb,atI_nat (j:=0) rfl,rfl,_,rfl,ifF (by decide +kernel) (hN _ _ ⟨rfl,k,n,ln1,mv1,hl1,tx,rfl,?_⟩)⟩
       unfold takeM
       rw [hlk]
       rfl
     | ev pl c=>
       obtain ⟨b,tt,rfl,hb,htt⟩:=id tx
       have hin:(pl,c)∈stand n:=tfrom_in (pl:=n.told) (by
        have:Tg.ev pl c∈lookM n:=by rw [hlk];exact List.mem_cons_self ..
        exact this)
       obtain ⟨ho,_⟩:=hok_of hin
       refine ⟨_,rfl,l,_,_,_,rfl,rfl,SqL.of hl1,atI_nat (j:=0) rfl,b,_,_,_,rfl,rfl,SqT.of hb,atI_nat (j:=0) rfl,rfl,_,rfl,ifT (by simp) ?_⟩
       obtain ⟨dx1,e1⟩:=ln1.ob
       refine ⟨_,rfl,k.a,dx1,_,rfl,e1,rfl,_,rfl,l,_,_,_,rfl,rfl,SqL.of hl1,atI_nat (j:=0) rfl,b,_,_,_,rfl,rfl,SqT.of hb,atI_nat (j:=1) rfl,k,n,pl,rfl,ln1,hl,ho,fun k2 H2 ln2 mv2=>hN _ _ ⟨rfl,k2,_,ln2,mv1.trans mv2,?_,tx.tk (ln1.tks L.ok mv2),rfl,?_⟩⟩
       ·refine mv2.out _ _ hl1 (fun m=>?_) (by intro _ _ _ z;cases z)
        obtain ⟨ys,ey⟩:=ln.has_ls m
        rw [hlN] at ey
        cases ey
       ·unfold takeM
        rw [hlk]
        rfl
    case nx=>
     rintro σ' H2 ⟨rfl,k2,n2,ln2,mv2,hl2,tx2,et2,eT⟩
     rw [eT] at q
     obtain ⟨dx2,e2⟩:=ln2.ob
     rw [mv2.a] at e2
     refine ⟨_,rfl,k.a,Z.l,dx2,_,_,rfl,e2,L.lc,L.l6,rfl,_,rfl,_,rfl,l,_,rfl,SqL.of hl2,fun q1 hq1=>?_⟩
     rw [cut1]
     have s3:Same H2 (upd H2 q1 (.lst ((x::xs').take 1))):=Same.new hq1
     have h3:(upd H2 q1 (.lst ((x::xs').take 1))) q1=some (.lst [x]):=upd_same
     generalize upd H2 q1 (.lst ((x::xs').take 1))=H3 at s3 h3 ⊢
     refine ⟨_,q1,x,t,rfl,SqL.of h3,tx2.tk (same_tk s3),?_⟩
     have e3:=s3 _ _ e2
     have ln3:=ln2.same s3
     refine ⟨_,rfl,k.a,Z.l,dx2,_,rfl,e3,L.lc,L.l6,(show 12<1000 by decide),?_⟩
     have e3':H3 k2.a=some (.ins Z.l dx2 (lnF k2.lp n2)):=by rw [mv2.a];exact e3
     have ln4:LnAt Z (upd H3 k.a (.ins Z.l dx2 (putF "told" (.int (n2.told+wdT t)) (lnF k2.lp n2)))) k2 { n2 with told:=n2.told+wdT t }:=by
      have:=ln3.setL L.ok (dx':=dx2) e3' { n2 with told:=n2.told+wdT t } rfl
      rw [mv2.a] at this
      exact this
     have nla:l≠k.a:=ne_of (s3 _ _ hl2) e3 (by intro z;cases z)
     have mv3:Mv Z k2 H3 k2 (upd H3 k.a (.ins Z.l dx2 (putF "told" (.int (n2.told+wdT t)) (lnF k2.lp n2)))):=Mv.ins e3 (.inr (.inr rfl)) (by rw [← mv2.a];exact LA.a_own)
     refine ⟨_,rfl,l,_,_,_,rfl,rfl,SqL.of (by rw [upd_ne nla];exact s3 _ _ hl2),atI_nat (j:=0) rfl,?_⟩
     exact q x k2 _ ln4 ((mv2.trans (Mv.same s3)).trans mv3) ((tx2.tk (same_tk s3)).tk (ln3.tks L.ok mv3))
end
structure TxtL (mg:Str->Option Value):Prop where
 a:∃ t,mg "FEWEST_PAGES" = some (.int 2 t)
 b:∃ t,mg "MOST_PAGES" = some (.int 16 t)
 c:∃ t,mg "LEAST_ROOM" = some (.int 5 t)
 d:∃ t,mg "MOST_ROOM" = some (.int 12 t)
def newLn (pages room:Int) (over:Bool):Ln:=⟨[⟨[],0,0⟩],pages,room,over,false,0,none,0,0,0,0,0⟩
section
variable {P:Program} {w:World} {K:PySem.W.Frag} {mg:Str->Option Value} {base:Heap} {Z:LC}
def spNP:Sp:=fun vs H Q _=>∃ i:Int,vs=[.int i]/\2≤i/\i≤16/\Q .non H
theorem scNP:FnScope ["pages"] ["pages"] (defScope (top 28)):=⟨rfl,rfl,rfl,by decide +kernel,rfl,by decide +kernel,by decide +kernel⟩
theorem ok_np {f:Addr} {fd:FuncData} (F:Fun K "need_pages" "need_pages" (top 28) f fd) (TL:TxtL mg):FnOk P w K mg base CX0 1 f fd ["pages"] spNP:=by
 refine F.ok scNP (fun vs H Q E h=>?_) (fun cdv A outer s H vs Q E hr h=>?_)
 ·obtain ⟨i,rfl,_⟩:=h
  rfl
 ·obtain ⟨i,rfl,h1,h2,q⟩:=h
  obtain ⟨ta,ma⟩:=TL.a
  obtain ⟨tb,mb⟩:=TL.b
  refine ⟨_,(pss_one (ps_if (pt_not (pt_chain op_le op_le (pe_glob (v:=.int 2) rfl ma ⟨_,rfl⟩) (pv 0) (pe_glob (v:=.int 16) rfl mb ⟨_,rfl⟩))) (pss_one ps_never) pss_nil)),?_⟩
  refine EvT.iff (EvT.not (EvT.test (EvE.chain EvE.con (EvE.var rfl) EvE.con EvR.i0 EvR.i0))) (ite2 (fun h=>?_) (fun h=>q))
  simp at h
  omega
def spNR:Sp:=fun vs H Q _=>∃ i:Int,vs=[.int i]/\5≤i/\i≤12/\Q .non H
theorem scNR:FnScope ["room"] ["room"] (defScope (top 29)):=⟨rfl,rfl,rfl,by decide +kernel,rfl,by decide +kernel,by decide +kernel⟩
theorem ok_nr {f:Addr} {fd:FuncData} (F:Fun K "need_room" "need_room" (top 29) f fd) (TL:TxtL mg):FnOk P w K mg base CX0 1 f fd ["room"] spNR:=by
 refine F.ok scNR (fun vs H Q E h=>?_) (fun cdv A outer s H vs Q E hr h=>?_)
 ·obtain ⟨i,rfl,_⟩:=h
  rfl
 ·obtain ⟨i,rfl,h1,h2,q⟩:=h
  obtain ⟨ta,ma⟩:=TL.c
  obtain ⟨tb,mb⟩:=TL.d
  refine ⟨_,(pss_one (ps_if (pt_not (pt_chain op_le op_le (pe_glob (v:=.int 5) rfl ma ⟨_,rfl⟩) (pv 0) (pe_glob (v:=.int 12) rfl mb ⟨_,rfl⟩))) (pss_one ps_never) pss_nil)),?_⟩
  refine EvT.iff (EvT.not (EvT.test (EvE.chain EvE.con (EvE.var rfl) EvE.con EvR.i0 EvR.i0))) (ite2 (fun h=>?_) (fun h=>q))
  simp at h
  omega
def spLI (Z:LC):Sp:=fun vs H Q _=>∃ (o dx:Addr) (pages room:Int) (over:Bool),vs=[.ref o,.int pages,.int room,.bl over]/\H o=some (.ins Z.l dx [])/\2≤pages/\pages≤16/\5≤room/\room≤12/\∀ k H',k.a=o->k.cs=[]->LnAt Z H' k (newLn pages room over)->(∀ b u,H b=some u->b≠o->H' b=some u)->(∀ l∈k.ls,H l=none)->Q .non H'
theorem scLI:FnScope ["self","pages","room","over"] ["self","pages","room","over"] (defScope (lM 0)):=⟨rfl,rfl,rfl,by decide +kernel,rfl,by decide +kernel,by decide +kernel⟩
theorem ok_li {f fN fR fI:Addr} {fd fdN fdR fdI:FuncData} (F:Fun K "__init__" "Lane.__init__" (lM 0) f fd) (L:LZ K mg Z) (TL:TxtL mg) (DN:Def K mg "need_pages" (top 28) ["pages"] fN fdN) (DR:Def K mg "need_room" (top 29) ["room"] fR fdR) (MkP:Mk K Z.p fI) (FI:Fun K "__init__" "Page.__init__" (gM 0) fI fdI) (bI:Binds K fdI ["self"] []):FnOk P w K mg base CX0 3 f fd ["self","pages","room","over"] (spLI Z):=by
 have GN:FnOk P w K mg base CX0 1 fN fdN ["pages"] spNP:=ok_np DN.F TL
 have GR:FnOk P w K mg base CX0 1 fR fdR ["room"] spNR:=ok_nr DR.F TL
 have GI:FnOk P w K mg base CX0 1 fI fdI ["self"] (spPI Z):=ok_pi FI L
 refine F.ok scLI (fun vs H Q E h=>?_) (fun cdv A outer s H vs Q E hr h=>?_)
 ·obtain ⟨o,dx,pages,room,over,rfl,_⟩:=h
  rfl
 ·obtain ⟨o,dx,pages,room,over,rfl,ho,p1,p2,r1,r2,q⟩:=h
  have hr1:Room 1 (A.deeper (PyProof.Rows.envOfC "Lane.__init__" (defScope (lM 0)) s.heap.objs.size f cdv)):=hr.mono (by decide)
  refine ⟨_,(pss_cons (ps_expr (pe_call (E:=E0) GN hr1 rfl DN.mg DN.F.kp DN.b .nil pass0 (pa_cons (pv 1) pa_nil))) (pss_cons (ps_expr (pe_call (E:=E0) GR hr1 rfl DR.mg DR.F.kp DR.b .nil pass0 (pa_cons (pv 2) pa_nil)))
   (pss_cons (ps_fld (pv 0) (pv 1) rfl) (pss_cons (ps_fld (pv 0) (pv 2) rfl) (pss_cons (ps_fld (pv 0) (pv 3) rfl)
   (pss_cons (ps_fld (pv 0) (pe_lst (pa_cons (pe_make0 (E:=E0) MkP GI hr rfl L.pmg bI .nil pass0) pa_nil)) rfl)
   (pss_cons (ps_fld (pv 0) pe_bl rfl) (pss_cons (ps_fld (pv 0) pe_int rfl) (pss_cons (ps_fld (pv 0) pe_non rfl) (pss_cons (ps_fld (pv 0) pe_int rfl) (pss_cons (ps_fld (pv 0) pe_int rfl) (pss_cons (ps_fld (pv 0) pe_int rfl) (pss_cons (ps_fld (pv 0) pe_int rfl) (pss_one (ps_fld (pv 0) pe_int rfl))))))))))))))),?_⟩
  refine ⟨_,rfl,pages,rfl,p1,p2,?_⟩
  refine ⟨_,rfl,room,rfl,r1,r2,?_⟩
  refine ⟨_,rfl,_,rfl,o,Z.l,dx,[],rfl,ho,L.lc,L.l1,(show 0<1000 by decide),?_⟩
  refine ⟨_,rfl,_,rfl,o,Z.l,dx,_,rfl,upd_same,L.lc,L.l2,(show 1<1000 by decide),?_⟩
  refine ⟨_,rfl,_,rfl,o,Z.l,dx,_,rfl,upd_same,L.lc,L.l3,(show 2<1000 by decide),?_⟩
  generalize hH3:upd (upd (upd H o (.ins Z.l dx (putF "most" (.int pages) []))) o (.ins Z.l dx (putF "room" (.int room) (putF "most" (.int pages) [])))) o (.ins Z.l dx (putF "over" (.bl over) (putF "room" (.int room) (putF "most" (.int pages) []))))=H3
  have k3:∀ b,b≠o->H3 b=H b:=fun b nb=>by rw [← hH3,upd_ne nb,upd_ne nb,upd_ne nb]
  have e3:H3 o=some (.ins Z.l dx [("most",.int pages),("room",.int room),("over",.bl over)]):=by rw [← hH3,upd_same];rfl
  clear hH3
  refine fun x dx' hx hdx ndx=>⟨x,dx',rfl,upd_same,fun l H4 hl4 hx4 hl4' kp=>⟨rfl,?_⟩⟩
  have s4:Same H3 H4:=new_same hx hdx kp
  have hl3:H3 l=none:=by
   have n1:l≠x:=fun z=>by rw [z,upd_same] at hl4;cases hl4
   have n2:l≠dx':=fun z=>by rw [z,upd_ne ndx,upd_same] at hl4;cases hl4
   rw [upd_ne n1,upd_ne n2] at hl4
   exact hl4
  refine ⟨(show 1≤sizeLine by decide),fun lp hlp=>?_⟩
  have s5:Same H4 (upd H4 lp (.lst [.ref x])):=Same.new hlp
  have h5:(upd H4 lp (.lst [.ref x])) lp=some (.lst [.ref x]):=upd_same
  generalize upd H4 lp (.lst [.ref x])=H5 at s5 h5 ⊢
  have e5:=s5 _ _ (s4 _ _ e3)
  have n1:x≠o:=fun z=>by rw [z,e3] at hx;cases hx
  have n2:l≠o:=fun z=>by rw [z,e3] at hl3;cases hl3
  have n3:lp≠o:=fun z=>by rw [z,s4 _ _ e3] at hlp;cases hlp
  have nll:lp≠l:=fun z=>by rw [z,hl4'] at hlp;cases hlp
  have fin:∀ HF:Hp,HF o=some (.ins Z.l dx (lnF lp (newLn pages room over)))->(∀ b,b≠o->HF b=H5 b)->Q .non HF:=by
   intro HF eF kF
   refine q ⟨o,lp,[⟨x,l,[]⟩]⟩ HF rfl rfl ⟨⟨dx,eF⟩,?_,.cons ⟨⟨dx',?_⟩,?_,.nil⟩ .nil,?_,?_,?_⟩ ?_ ?_
   ·show HF lp=some (.lst [.ref x])
    rw [kF _ n3]
    exact h5
   ·show HF x=_
    rw [kF _ n1]
    exact s5 _ _ hx4
   ·show HF l=some (.lst [])
    rw [kF _ n2]
    exact s5 _ _ hl4'
   ·simp
   ·show [lp,l].Nodup
    simp [nll]
   ·show ([]:List Addr).Nodup
    simp
   ·intro b u e nb
    rw [kF _ nb]
    refine s5 _ _ (s4 _ _ ?_)
    rw [k3 _ nb]
    exact e
   ·intro b mb
    have mb:b∈[lp,l]:=mb
    rcases List.mem_cons.mp mb with rfl|mb
    ·rw [← k3 _ n3]
     exact gr_same s4 hlp
    ·cases List.mem_singleton.mp mb
     rw [← k3 _ n2]
     exact hl3
  refine ⟨_,rfl,o,Z.l,dx,_,rfl,e5,L.lc,L.l4,(show 3<1000 by decide),?_⟩
  refine ⟨_,rfl,o,Z.l,dx,_,rfl,upd_same,L.lc,L.l5,(show 4<1000 by decide),?_⟩
  refine ⟨_,rfl,o,Z.l,dx,_,rfl,upd_same,L.lc,L.l6,(show 5<1000 by decide),?_⟩
  refine ⟨_,rfl,o,Z.l,dx,_,rfl,upd_same,L.lc,L.l7,(show 6<1000 by decide),?_⟩
  refine ⟨_,rfl,o,Z.l,dx,_,rfl,upd_same,L.lc,L.l8,(show 7<1000 by decide),?_⟩
  refine ⟨_,rfl,o,Z.l,dx,_,rfl,upd_same,L.lc,L.l9,(show 8<1000 by decide),?_⟩
  refine ⟨_,rfl,o,Z.l,dx,_,rfl,upd_same,L.lc,L.l10,(show 9<1000 by decide),?_⟩
  refine ⟨_,rfl,o,Z.l,dx,_,rfl,upd_same,L.lc,L.l11,(show 10<1000 by decide),?_⟩
  refine ⟨_,rfl,o,Z.l,dx,_,rfl,upd_same,L.lc,L.l12,(show 11<1000 by decide),?_⟩
  exact fin _ upd_same (fun b nb=>by rw [upd_ne nb,upd_ne nb,upd_ne nb,upd_ne nb,upd_ne nb,upd_ne nb,upd_ne nb,upd_ne nb,upd_ne nb])
end
section
variable {P:Program} {w:World} {K:PySem.W.Frag} {mg:Str->Option Value} {base:Heap} {Z:LC}
def KsAt (H:Hp) (x:V):Prop:=∃ (b a:Addr) (nm:Str) (xs:List V) (fs:List Fld),x=.ref b/\H b=some (.tup [.str nm,.ref a])/\H a=some (.tup xs)/\Paired (FldAt H) xs fs/\KdOk nm fs
theorem KsAt.tk {H H':Hp} {x:V} (h:KsAt H x) (k:TK H H'):KsAt H' x:=by
 obtain ⟨b,a,nm,xs,fs,e,h1,h2,h3,h4⟩:=h
 exact ⟨b,a,nm,xs,fs,e,k _ _ h1,k _ _ h2,flds_tk h3 k,h4⟩
def spKs (K:Frag):Sp:=fun vs H Q _=>∃ (p dc:Addr),vs=[.ref p]/\Dr H p dc/\∀ (l:Addr) (ys:List V) (H':Hp),H' l=some (.lst ys)->ys≠[]->(∀ y∈ys,KsAt H' y)->Dr H' p dc->But p H H'->ys.length≤3->Q (.ref l) H'
theorem scKs:FnScope ["_law_d","_law_many"] ["_law_d"] (defScope (top 46)):=⟨rfl,rfl,rfl,by decide +kernel,rfl,by decide +kernel,by decide +kernel⟩
theorem ok_ks {f fP fO fW fWs fF fB:Addr} {fd fdP fdO fdW fdWs fdF fdB:FuncData} (F:Fun K "_law_kinds_for" "_law_kinds_for" (top 46) f fd) (T:Txt K mg) (DP:Def K mg "_law_pick" (top 40) ["_law_d","_law_many"] fP fdP) (DO:Def K mg "_law_of" (top 41) ["_law_d","_law_things"] fO fdO) (DW:Def K mg "_law_word" (top 42) ["_law_d"] fW fdW) (DWs:Def K mg "_law_words" (top 43) ["_law_d","_law_many"] fWs fdWs) (DF:Def K mg "_law_fields" (top 45) ["_law_d","_law_many"] fF fdF) (DB:Def K mg "_law_bound" (top 44) ["_law_d"] fB fdB):FnOk P w K mg base CX0 6 f fd ["_law_d"] (spKs K):=by
 have GP:FnOk P w K mg base CX0 1 fP fdP ["_law_d","_law_many"] spPick:=ok_pick DP.F T
 have GO:FnOk P w K mg base CX0 2 fO fdO ["_law_d","_law_things"] (spOf K):=ok_of DO.F T DP
 have GW:FnOk P w K mg base CX0 4 fWs fdWs ["_law_d","_law_many"] (spWords K):=ok_words DWs.F T DP DO DW
 have GF:FnOk P w K mg base CX0 5 fF fdF ["_law_d","_law_many"] (spFields K):=ok_fields DF.F T DP DO DW DWs DB
 refine F.ok scKs (fun vs H Q E h=>?_) (fun cdv A outer s H vs Q E hr h=>?_)
 ·obtain ⟨p,dc,rfl,_⟩:=h
  rfl
 ·obtain ⟨p,dc,rfl,D,q⟩:=h
  have hr1:Room 1 _:=hr.mono (by decide)
  have hr2:Room 2 _:=hr.mono (by decide)
  have hr4:Room 4 _:=hr.mono (by decide)
  refine ⟨_,(pss_cons (ps_set (i:=1) scKs.nd rfl (Or.inl rfl) (pe_call (E:=E0) GO hr2 rfl DO.mg DO.F.kp DO.b .nil pass0 (pa_cons (pv 0) (pa_cons (pe_lst (pa_cons pe_int (pa_cons pe_int (pa_cons pe_int pa_nil)))) pa_nil))))
   (pss_one (ps_ret (pe_comp (g:=gName 0) (own:=["_law_title"]) (js:=[0]) (N':=["_law_title","_law_d"]) (CompScope.of (osc:=defScope (top 46)) (N:=["_law_d","_law_many"]) rfl rfl ⟨rfl,by decide +kernel,by decide +kernel,by decide +kernel,rfl,by decide +kernel⟩) rfl (pi_list (pe_call (E:=E0) GW hr4 rfl DWs.mg DWs.F.kp DWs.b .nil pass0 (pa_cons (pv 0) (pa_cons (pv 1) pa_nil)))) (fun _ _ _ _ _=>(pg_name (i:=0) (show List.Nodup (["_law_title","_law_d"]:List Str) by decide +kernel) rfl (Or.inl rfl) (Or.inr rfl))) (fun _ _ _ _ _=>pifs_nil) (fun _ _ _ _ _=>pe_tup (pa_cons (pv 0) (pa_cons (pe_call (E:=E0) GF hr rfl DF.mg DF.F.kp DF.b .nil pass0 (pa_cons (pv 1) (pa_cons (pe_call (E:=E0) GP hr1 rfl DP.mg DP.F.kp DP.b .nil pass0 (pa_cons (pv 1) (pa_cons pe_int pa_nil))) pa_nil))) pa_nil))))))),?_⟩
  refine ⟨_,rfl,(show 3≤sizeLine by decide),fun l0 hl0=>?_⟩
  have D0:=D.new (o:=.lst [.int 1,.int 2,.int 3]) hl0
  have b0:But p H (upd H l0 (.lst [.int 1,.int 2,.int 3])):=But.new hl0
  refine ⟨p,dc,l0,_,rfl,D0,SqL.of upd_same,by simp,by simp,fun x H1 hx D1 b1=>?_⟩
  obtain ⟨m,rfl,m1,m3⟩:∃ m:Int,x=.int m/\1≤m/\m≤3:=by
   simp only [List.mem_cons,List.not_mem_nil,or_false] at hx
   rcases hx with rfl|rfl|rfl
   ·exact ⟨1,rfl,by decide,by decide⟩
   ·exact ⟨2,rfl,by decide,by decide⟩
   ·exact ⟨3,rfl,by decide,by decide⟩
  have B1:=b0.trans b1
  refine ⟨_,rfl,_,rfl,p,dc,m,rfl,D1,by omega,by omega,fun qw ys H2 hq hqn yl yn ynd D2 b2=>?_⟩
  have B2:=B1.trans b2
  refine ⟨qw,rfl,⟨_,SqL.of hq⟩,?_⟩
  have qp:qw≠p:=D2.ne hq (by intro _ z;cases z)
  refine comp_list (K:=K) (a:=qw) (xs:=ys.map V.str) (fun j zs σ' H'=>But p H H'/\Dr H' p dc/\H' qw=some (.lst (ys.map V.str))/\(∃ v,σ'=[v,some (.ref p)])/\zs.length=j/\∀ z∈zs,KsAt H' z) (by rw [List.length_map];exact Nat.le_trans (show ys.length≤60 by omega) (by decide)) ⟨B2,D2,hq,⟨none,rfl⟩,rfl,by simp⟩ (fun j zs σ H' _ z=>SqL.of z.2.2.1) ?_ ?_
  ·rintro j x zs σ' H3 hj hy ⟨B3,D3,hq3,⟨v,rfl⟩,zl,kz⟩ N hN
   obtain ⟨nm,hnm,rfl⟩:=map_at hj
   have nn:=yn nm (List.mem_of_getElem? hnm)
   dsimp only [gName,List.set]
   refine ⟨_,rfl,_,rfl,_,rfl,p,dc,_,rfl,D3,by decide,by decide,fun r H4 r0 r1 D4 b4=>?_⟩
   refine ⟨p,dc,r,rfl,D4,r0,by omega,fun a xs fs H5 ha pf fl fo fnd han D5 b5=>?_⟩
   have tk5:TK H3 H5:=(TK.but D3 b4).trans (TK.but D4 b5)
   have hq5:=b5 _ _ (b4 _ _ hq3 qp) qp
   refine ⟨(show 2≤sizeLine by decide),fun b hb=>?_⟩
   have s6:=Same.new (o:=.tup [.str nm,.ref a]) hb
   have tk6:TK H5 (upd H5 b (.tup [.str nm,.ref a])):=fun c ys e=>s6 _ _ e
   refine hN _ _ _ (by rw [List.length_append,hy];rfl) ⟨((B3.trans b4).trans b5).trans s6.but,D5.mono s6,s6 _ _ hq5,⟨_,rfl⟩,by rw [List.length_append,zl];rfl,fun z mz=>?_⟩
   rcases List.mem_append.mp mz with mz|mz
   ·exact ((kz z mz).tk tk5).tk tk6
   ·cases List.mem_singleton.mp mz
    exact ⟨b,a,nm,xs,fs,rfl,upd_same,s6 _ _ ha,flds_tk pf tk6,nn,by omega,fo,fnd⟩
  ·rintro zs σ' H3 hy ⟨B3,D3,hq3,⟨v,rfl⟩,zl,kz⟩
   rw [List.length_map] at zl
   refine ⟨Nat.le_trans (show zs.length≤60 by omega) (by decide),fun l hl=>?_⟩
   have s4:=Same.new (o:=.lst zs) hl
   exact q l zs _ upd_same (fun z=>by rw [z] at zl;simp at zl;omega) (fun z mz=>(kz z mz).tk fun c ys e=>s4 _ _ e) (D3.mono s4) (B3.trans s4.but) (by omega)
end
theorem leave_split {n:Ln} {e:Nat} (h:e+1<n.pg.length):∃ A p q B,n.pg=A++p::q::B/\A.length=e/\leaveM e n={ n with pg:=A++nextP p q::B }:=by
 have h0:n.pg[e]?=some n.pg[e]:=List.getElem?_eq_getElem (by omega)
 have h1:n.pg[e+1]?=some n.pg[e+1]:=List.getElem?_eq_getElem h
 have d0:n.pg.drop e=n.pg[e]::n.pg[e+1]::n.pg.drop (e+2):=by
  rw [List.drop_eq_getElem_cons (by omega),List.drop_eq_getElem_cons h]
 have sp:n.pg=n.pg.take e++n.pg[e]::n.pg[e+1]::n.pg.drop (e+2):=by
  rw [← d0,List.take_append_drop]
 have la:(n.pg.take e).length=e:=by rw [List.length_take];omega
 refine ⟨n.pg.take e,n.pg[e],n.pg[e+1],n.pg.drop (e+2),sp,la,?_⟩
 unfold leaveM
 rw [h0,h1]
 have er:n.pg.eraseIdx e=n.pg.take e++n.pg[e+1]::n.pg.drop (e+2):=by
  conv=>lhs;rw [sp]
  rw [List.eraseIdx_append_of_length_le (by omega),la,Nat.sub_self]
  rfl
 show ({ n with pg:=(n.pg.eraseIdx e).set e _ }:Ln)=_
 rw [er,List.set_append_right _ _ (by omega),la,Nat.sub_self]
 rfl
theorem last_of {n:Ln} (ne:n.pg≠[]):∃ r h,n.pg=r++[h]/\n.pg[n.pg.length-1]?=some h:=by
 rcases List.eq_nil_or_concat n.pg with e|⟨r,h,e⟩
 ·exact absurd e ne
 ·rw [List.concat_eq_append] at e
  exact ⟨r,h,e,by rw [e];simp⟩
theorem put_of {n:Ln} {r:List Pg} {h:Pg} {c:Cl} {z:Int} (e:n.pg=r++[h]):putCl c z n={ n with pg:=r++[{ h with cs:=h.cs++[c],us:=h.us+z }] }:=by
 have h1:n.pg[n.pg.length-1]?=some h:=by rw [e];simp
 unfold putCl
 rw [h1]
 show ({ n with pg:=n.pg.set (n.pg.length-1) _ }:Ln)=_
 rw [e]
 simp
theorem wait_put {n:Ln} {r:List Pg} {h:Pg} {c:Cl} {z:Int} (e:n.pg=r++[h]) (cg:c.gv=false):wait (putCl c z n)=wait n++[c]:=by
 rw [put_of e]
 unfold wait
 rw [e]
 have:opn (h.cs++[c])=opn h.cs++[c]:=by
  unfold opn
  rw [List.filter_append]
  simp [cg]
 simp [List.flatMap_append,this]
theorem wait_sub:∀ pg:List Pg,(pg.flatMap fun p=>opn p.cs).Sublist (pg.flatMap (·.cs))
 |[]=>List.Sublist.refl _
 | p::r=>by
   rw [List.flatMap_cons,List.flatMap_cons]
   exact List.filter_sublist.append (wait_sub r)
theorem filter_last {r:List Cl} {m:Cl} {tk:Int} (nd:((r++[m]).map (·.tk)).Nodup) (e:m.tk=tk):(r++[m]).filter (fun c=>decide (c.tk≠tk))=r:=by
 rw [List.filter_append]
 have h1:[m].filter (fun c=>decide (c.tk≠tk))=[]:=by simp [e]
 have h2:r.filter (fun c=>decide (c.tk≠tk))=r:=by
  rw [List.filter_eq_self]
  intro c mc
  rw [List.map_append,List.nodup_append] at nd
  have:=nd.2.2 c.tk (List.mem_map.mpr ⟨c,mc,rfl⟩) m.tk (by simp)
  simp
  omega
 rw [h1,h2,List.append_nil]
theorem opn_give (tk:Int):∀ cs:List Cl,opn (cs.map (giveC tk))=(opn cs).filter fun c=>decide (c.tk≠tk)
 |[]=>rfl
 | c::r=>by
   have ih:=opn_give tk r
   unfold opn at ih ⊢
   rw [List.map_cons,List.filter_cons,List.filter_cons,ih]
   unfold giveC
   by_cases h:c.tk=tk
   ·rw [if_pos h]
    cases hg:c.gv <;> simp [h]
   ·rw [if_neg h]
    cases hg:c.gv <;> simp [h]
theorem opn_wto (tk:Int) (cs:List Cl):opn (wto tk cs)=(opn cs).filter fun c=>decide (c.tk≠tk):=by
 unfold opn wto
 rw [List.filter_filter,List.filter_filter]
 congr 1
 funext c
 rw [Bool.and_comm]
theorem flat_opn_give (tk:Int):∀ pg:List Pg,((pg.map fun p=>({ p with cs:=p.cs.map (giveC tk) }:Pg)).flatMap fun p=>opn p.cs)=(pg.flatMap fun p=>opn p.cs).filter fun c=>decide (c.tk≠tk)
 |[]=>rfl
 | p::r=>by
   rw [List.map_cons,List.flatMap_cons,List.flatMap_cons,List.filter_append,flat_opn_give tk r,← opn_give]
theorem flat_cs_give (tk:Int):∀ pg:List Pg,((pg.map fun p=>({ p with cs:=p.cs.map (giveC tk) }:Pg)).flatMap (·.cs))=(pg.flatMap (·.cs)).map (giveC tk)
 |[]=>rfl
 | p::r=>by
   rw [List.map_cons,List.flatMap_cons,List.flatMap_cons,List.map_append,flat_cs_give tk r]
theorem give_tk (tk:Int) (c:Cl):(giveC tk c).tk=c.tk/\(giveC tk c).fi=c.fi:=by
 unfold giveC
 split <;> exact ⟨rfl,rfl⟩
theorem flat_opn_wo (tk:Int):∀ pg:List Pg,((pg.map (woP tk)).flatMap fun p=>opn p.cs)=(pg.flatMap fun p=>opn p.cs).filter fun c=>decide (c.tk≠tk)
 |[]=>rfl
 | p::r=>by
   rw [List.map_cons,List.flatMap_cons,List.flatMap_cons,List.filter_append,flat_opn_wo tk r,← opn_wto]
   rfl
theorem flat_cs_wo (tk:Int):∀ pg:List Pg,((pg.map (woP tk)).flatMap (·.cs)).Sublist (pg.flatMap (·.cs))
 |[]=>List.Sublist.refl _
 | p::r=>by
   rw [List.map_cons,List.flatMap_cons,List.flatMap_cons]
   exact List.filter_sublist.append (flat_cs_wo tk r)
theorem sub_split {tk sz:Int} {n:Ln} {r:List Pg} {h:Pg} (e:n.pg=r++[h]):subHd tk sz n=r++[if lastTk h=some tk then { h with us:=h.us-sz } else h]:=by
 have el:n.pg[n.pg.length-1]?=some h:=by rw [e];simp
 unfold subHd
 rw [el]
 show (if lastTk h=some tk then n.pg.set (n.pg.length-1) { h with us:=h.us-sz } else n.pg)=_
 split
 ·rw [e];simp
 ·exact e
section
variable {P:Program} {w:World} {K:PySem.W.Frag} {mg:Str->Option Value} {base:Heap} {Z:LC}
end
section
variable {P:Program} {w:World} {K:PySem.W.Frag} {mg:Str->Option Value} {base:Heap} {Z:LC}
def spCo (Z:LC):Sp:=fun vs H Q _=>∃ (k:LA) (n:Ln),vs=[.ref k.a]/\LnAt Z H k n/\∀ t H',Same H H'->H' t=some (.tup [.int n.giv,.int n.thr,.int n.los,.int n.mis])->Q (.ref t) H'
theorem scCo:FnScope ["self"] ["self"] (defScope (lM 19)):=⟨rfl,rfl,rfl,by decide +kernel,rfl,by decide +kernel,by decide +kernel⟩
theorem ok_co {f:Addr} {fd:FuncData} (F:Fun K "counts" "Lane.counts" (lM 19) f fd) (L:LZ K mg Z):FnOk P w K mg base CX0 1 f fd ["self"] (spCo Z):=by
 refine F.ok scCo (fun vs H Q E h=>?_) (fun cdv A outer s H vs Q E hr h=>?_)
 ·obtain ⟨k,n,rfl,_⟩:=h
  rfl
 ·obtain ⟨k,n,rfl,ln,q⟩:=h
  refine ⟨_,(pss_one (ps_ret (pe_tup (pa_cons (pe_fld (pv 0) rfl) (pa_cons (pe_fld (pv 0) rfl) (pa_cons (pe_fld (pv 0) rfl) (pa_cons (pe_fld (pv 0) rfl) pa_nil))))))),?_⟩
  obtain ⟨dx,e⟩:=ln.ob
  exact ⟨_,rfl,k.a,Z.l,dx,_,_,rfl,e,L.lc,L.l9,rfl,_,rfl,k.a,Z.l,dx,_,_,rfl,e,L.lc,L.l10,rfl,_,rfl,k.a,Z.l,dx,_,_,rfl,e,L.lc,L.l11,rfl,_,rfl,k.a,Z.l,dx,_,_,rfl,e,L.lc,L.l12,rfl,(show 4≤sizeLine by decide),fun t ht=>q t _ (Same.new ht) upd_same⟩
end
section
variable {most room:Int} {A:List Cl} {n:Ln} {taken:Nat} {mis turn:Int}
end
structure Dj (k1 k2:LA):Prop where
 o:∀ b∈k1.own,b∉k2.own
 l:∀ b∈k1.ls,b∉k2.ls
theorem Dj.symm {k1 k2:LA} (h:Dj k1 k2):Dj k2 k1:=⟨fun b m z=>h.o b z m,fun b m z=>h.l b z m⟩
theorem Pd.take {α β:Type} {R:α->β->Prop}:∀ {xs:List α} {ys:List β} (i:Nat),Pd R xs ys->Pd R (xs.take i) (ys.take i)
 |_,_,0,_=>by simpa using Pd.nil
 |_,_,_+1,.nil=>.nil
 |_,_,i+1,.cons r t=>.cons r (t.take i)
section
variable {P:Program} {w:World} {K:PySem.W.Frag} {mg:Str->Option Value} {base:Heap} {Z:LC}
theorem LnAt.has_own {H:Hp} {k:LA} {n:Ln} {b:Addr} (h:LnAt Z H k n) (m:b∈k.own):∃ C dx fs,H b=some (.ins C dx fs):=by
 rcases List.mem_cons.mp m with rfl|m
 ·obtain ⟨dx,e⟩:=h.ob
  exact ⟨_,_,_,e⟩
 ·rcases List.mem_append.mp m with m|m
  ·obtain ⟨s,ms,rfl⟩:=List.mem_map.mp m
   obtain ⟨i,hi⟩:=List.mem_iff_getElem?.mp ms
   obtain ⟨y,_,r⟩:=h.pg.at hi
   obtain ⟨dx,e⟩:=r.ob
   exact ⟨_,_,_,e⟩
  ·obtain ⟨s,ms,mb⟩:=List.mem_flatMap.mp m
   obtain ⟨i,hi⟩:=List.mem_iff_getElem?.mp ms
   obtain ⟨y,_,r⟩:=h.pg.at hi
   obtain ⟨j,hj⟩:=List.mem_iff_getElem?.mp mb
   obtain ⟨z,_,rz⟩:=r.cs.at hj
   obtain ⟨dx,fs,e⟩:=rz.ins
   exact ⟨_,_,_,e⟩
theorem LnAt.stay {H H':Hp} {k:LA} {n:Ln} (h:LnAt Z H k n) (kt:Kt Z H H') (ko:∀ b∈k.own,H' b=H b) (kl:∀ b∈k.ls,H' b=H b):LnAt Z H' k n:=by
 obtain ⟨dx,e⟩:=h.ob
 refine ⟨⟨dx,by rw [ko _ LA.a_own];exact e⟩,by rw [kl _ (List.mem_cons_self ..)];exact h.ls,Pd.mapM (fun s ms m r=>?_) h.pg,h.n1,h.n2,h.n3⟩
 obtain ⟨i,hi⟩:=List.mem_iff_getElem?.mp ms
 exact r.kt kt (ko _ (LA.p_own hi)) (kl _ (List.mem_cons_of_mem _ (List.mem_map.mpr ⟨s,ms,rfl⟩))) fun c mc=>ko _ (LA.c_own (List.mem_flatMap.mpr ⟨s,ms,mc⟩))
theorem LnAt.beside (zo:Z.Ok) {H H':Hp} {k1 k1' k2:LA} {n1 n2:Ln} (h1:LnAt Z H k1 n1) (h2:LnAt Z H k2 n2) (d:Dj k1 k2) (m:Mv Z k1 H k1' H'):LnAt Z H' k2 n2:=by
 refine h2.stay ⟨h1.tks zo m,fun c dx fs e=>m.out c _ e (ne_ls h1 e) (by intro C dx' fs' z;cases z;exact ⟨zo.kc,zo.kp,zo.kl⟩)⟩ (fun b mb=>?_) (fun b mb=>?_)
 ·obtain ⟨C,dx,fs,e⟩:=h2.has_own mb
  rw [m.oth b _ e (fun z=>d.o b z mb) (ne_ls h1 e),e]
 ·obtain ⟨xs,e⟩:=h2.has_ls mb
  rw [m.oth b _ e (fun z=>by
   obtain ⟨C,dx,fs,e'⟩:=h1.has_own z
   rw [e] at e';cases e') (fun z=>d.l b z mb),e]
theorem Dj.mv {H H':Hp} {k1 k1' k2:LA} {n2:Ln} (h2:LnAt Z H k2 n2) (d:Dj k1 k2) (m:Mv Z k1 H k1' H'):Dj k1' k2:=by
 refine ⟨fun b mb z=>?_,fun b mb z=>?_⟩
 ·rcases m.fro b mb with h|h
  ·exact d.o b h z
  ·obtain ⟨C,dx,fs,e⟩:=h2.has_own z
   rw [h] at e;cases e
 ·rcases m.fr b mb with h|h
  ·exact d.l b h z
  ·obtain ⟨xs,e⟩:=h2.has_ls z
   rw [h] at e;cases e
def spPbG (K:Frag):Sp:=fun vs H Q _=>∃ (pl:Int) (q:Addr) (xs:List V) (ts:List Tg),vs=[.int pl,.ref q]/\SqL K H q xs/\Pd (TgAt H) xs ts/\∀ z:Int,Q (.int z) H
theorem ok_pbG {f:Addr} {fd:FuncData} (F:Fun K "place_behind" "place_behind" (top 31) f fd):FnOk P w K mg base CX0 1 f fd ["place","told"] (spPbG K):=by
 refine F.ok scPb (fun vs H Q E h=>?_) (fun cdv A outer s H vs Q E hr h=>?_)
 ·obtain ⟨pl,q,xs,ts,rfl,_⟩:=h
  rfl
 ·obtain ⟨pl,q,xs,ts,rfl,sq,pd,k⟩:=h
  refine ⟨_,(pss_cons
 (ps_for PassesOwn.never rfl (pi_list (pv 1)) (pg_name (i:=2) scPb.nd rfl (Or.inl rfl)) (pss_one
  (ps_aug (i:=0) scPb.nd rfl (Or.inl rfl) (pe_ifExp (pt_cmpR op_eq (pe_ix ix_tup (pv 2) pe_int (fun _ _=>rfl)) pe_str (nomark _)) (pe_ix ix_tup (pv 2) pe_int (fun _ _=>rfl)) pe_int) ip_add)))
 (pss_one (ps_ret (pv 0)))),?_⟩
  refine ⟨_,rfl,q,rfl,⟨_,sq⟩,?_⟩
  refine for_list (K:=K) (a:=q) (xs:=xs) (fun i σ' H'=>H'=H/\(∃ (z:Int) (u:Option V),σ'=[some (.int z),some (.ref q),u])) ⟨rfl,pl,none,rfl⟩ (fun i σ' H' _ ⟨e,_⟩=>by rw [e];exact sq) ?_ ?_
  ·rintro i y σ' H' hy ⟨rfl,z,u,rfl⟩
   obtain ⟨th,_,ta⟩:=pd.at hy
   cases th with
   | lost n=>
     obtain ⟨a,rfl,ha⟩:=(show TgAt H' y (.lost n) from ta)
     refine ⟨_,rfl,_,rfl,a,_,_,_,rfl,rfl,SqT.of ha,atI_nat (j:=0) rfl,rfl,_,rfl,ifT (by simp) ?_⟩
     refine ⟨_,rfl,a,_,_,_,rfl,rfl,SqT.of ha,atI_nat (j:=1) rfl,_,_,rfl,rfl,rfl,_,_,rfl⟩
   | ev p c=>
     obtain ⟨a,t,rfl,ha,_⟩:=(show TgAt H' y (.ev p c) from ta)
     refine ⟨_,rfl,_,rfl,a,_,_,_,rfl,rfl,SqT.of ha,atI_nat (j:=0) rfl,rfl,_,rfl,ifF (by decide +kernel) ?_⟩
     refine ⟨_,_,rfl,rfl,rfl,_,_,rfl⟩
  ·rintro σ' H' ⟨rfl,z,u,rfl⟩
   exact ⟨_,rfl,k z⟩
abbrev kkM (j:Nat):Stmt:=inClass (top 37) j
structure LkZ (K:Frag) (mg:Str->Option Value) (C:Addr):Prop where
 cl:Cls K C
 mg:mg "Looker" = some (.ref C)
 n1:NoAttr K C "watched"
 n2:NoAttr K C "reached"
def lkF (a:Addr) (r:Int):List (Str×V):=[("watched",.ref a),("reached",.int r)]
def spKI (C:Addr):Sp:=fun vs H Q _=>∃ (o dx a:Addr),vs=[.ref o,.ref a]/\H o=some (.ins C dx [])/\∀ H',H' o=some (.ins C dx (lkF a 0))->(∀ b u,H b=some u->b≠o->H' b=some u)->Q .non H'
theorem scKI2:FnScope ["self","lane"] ["self","lane"] (defScope (kkM 0)):=⟨rfl,rfl,rfl,by decide +kernel,rfl,by decide +kernel,by decide +kernel⟩
theorem ok_lki {C f:Addr} {fd:FuncData} (F:Fun K "__init__" "Looker.__init__" (kkM 0) f fd) (LK:LkZ K mg C):FnOk P w K mg base CX0 1 f fd ["self","lane"] (spKI C):=by
 refine F.ok scKI2 (fun vs H Q E h=>?_) (fun cdv A outer s H vs Q E hr h=>?_)
 ·obtain ⟨o,dx,a,rfl,_⟩:=h
  rfl
 ·obtain ⟨o,dx,a,rfl,ho,k⟩:=h
  refine ⟨_,(pss_cons (ps_fld (pv 0) (pv 1) rfl) (pss_one (ps_fld (pv 0) pe_int rfl))),?_⟩
  refine ⟨_,rfl,_,rfl,o,C,dx,[],rfl,ho,LK.cl,LK.n1,(show 0<1000 by decide),?_⟩
  refine ⟨_,rfl,o,C,dx,_,rfl,upd_same,LK.cl,LK.n2,(show 1<1000 by decide),?_⟩
  refine k _ upd_same fun b u e nb=>?_
  rw [upd_ne nb,upd_ne nb]
  exact e
def spMo (Z:LC) (C:Addr):Sp:=fun vs H Q _=>∃ (o dx:Addr) (k:LA) (n:Ln) (r most:Int),vs=[.ref o,.int most]/\H o=some (.ins C dx (lkF k.a r))/\0≤most/\LnAt Z H k n/\k.cs.length≤900/\n.pg.length≤900/\(stand n).length≤900/\∀ (v:V) (r':Int) (H':Hp),H' o=some (.ins C dx (lkF k.a r'))->(∀ b u,H b=some u->b≠o->H' b=some u)->Q v H'
theorem scMo:FnScope ["self","most","told"] ["self","most"] (defScope (kkM 1)):=⟨rfl,rfl,rfl,by decide +kernel,rfl,by decide +kernel,by decide +kernel⟩
theorem ok_mo {C f fS fT fB:Addr} {fd fdS fdT fdB:FuncData} (F:Fun K "more" "Looker.more" (kkM 1) f fd) (LK:LkZ K mg C) (L:LZ K mg Z) (MS:MD K Z.l "standing" "Lane.standing" (lM 12) ["self"] fS fdS) (GS:FnOk P w K mg base CX0 2 fS fdS ["self"] (spSd Z)) (DT:Def K mg "told_from" (top 30) ["events","place"] fT fdT) (DB:Def K mg "place_behind" (top 31) ["place","told"] fB fdB):FnOk P w K mg base CX0 3 f fd ["self","most"] (spMo Z C):=by
 have GT:FnOk P w K mg base CX0 1 fT fdT ["events","place"] spTf:=ok_tf DT.F
 have GB:FnOk P w K mg base CX0 1 fB fdB ["place","told"] (spPbG K):=ok_pbG DB.F
 refine F.ok scMo (fun vs H Q E h=>?_) (fun cdv A outer s H vs Q E hr h=>?_)
 ·obtain ⟨o,dx,k,n,r,most,rfl,_⟩:=h
  rfl
 ·obtain ⟨o,dx,k,n,r,most,rfl,ho,hm,ln,hc,hl,sl,q⟩:=h
  have hr1:Room 1 (A.deeper (PyProof.Rows.envOfC "Looker.more" (defScope (kkM 1)) s.heap.objs.size f cdv)):=hr.mono (by decide)
  refine ⟨_,(pss_cons (ps_if (pt_cmpR op_lt (pv 1) pe_int (nomark _)) (pss_one ps_never) pss_nil)
   (pss_cons (ps_set (i:=2) scMo.nd rfl (Or.inl rfl) (pe_slice sl_list (pe_call (E:=E0) GT hr1 rfl DT.mg DT.F.kp DT.b .nil pass0 (pa_cons (pe_meth0 (E:=E0) (pe_fld (pv 0) rfl) L.lc MS.M GS hr MS.b .nil pass0) (pa_cons (pe_fld (pv 0) rfl) pa_nil))) po_none (po_some (pv 1))))
   (pss_cons (ps_fld (pv 0) (pe_call (E:=E0) GB hr1 rfl DB.mg DB.F.kp DB.b .nil pass0 (pa_cons (pe_fld (pv 0) rfl) (pa_cons (pv 2) pa_nil))) rfl)
   (pss_one (ps_ret (pv 2)))))),?_⟩
  obtain ⟨dl,el⟩:=ln.ob
  refine ⟨_,rfl,_,_,rfl,rfl,_,rfl,ifF (by simp;omega) ?_⟩
  try dsimp only [tNext]
  refine ⟨_,rfl,o,C,dx,_,_,rfl,ho,LK.cl,LK.n1,rfl,k.a,dl,_,rfl,el,rfl,k,n,rfl,ln,hc,hl,fun l xs H1 s1 hl1 pd=>?_⟩
  refine ⟨_,rfl,o,C,dx,_,_,rfl,s1 _ _ ho,LK.cl,LK.n2,rfl,l,xs,_,_,rfl,hl1,pd,sl,fun l2 ys H2 s2 hn2 hl2 pd2=>?_⟩
  refine ⟨_,rfl,_,rfl,l2,_,rfl,SqL.of hl2,fun l3 hl3=>?_⟩
  have s3:=Same.new (o:=.lst (cutV ys none (some most))) hl3
  have h3:(upd H2 l3 (.lst (cutV ys none (some most)))) l3=some (.lst (cutV ys none (some most))):=upd_same
  have ec:∃ j,cutV ys none (some most)=ys.take j:=by
   obtain ⟨a,ha⟩:∃ a:Nat,most=(a:Int):=⟨most.toNat,by omega⟩
   subst ha
   refine ⟨min a ys.length,?_⟩
   unfold cutV
   rw [HT.sIx_nat,HT.sIx_none,List.drop_zero,Nat.sub_zero]
  obtain ⟨j,ej⟩:=ec
  have S3:=s1.trans (s2.trans s3)
  generalize upd H2 l3 (.lst (cutV ys none (some most)))=H3 at s3 h3 S3 ⊢
  rw [ej] at h3
  have ho3:=S3 _ _ ho
  refine ⟨_,rfl,o,C,dx,_,_,rfl,ho3,LK.cl,LK.n2,rfl,_,rfl,_,l3,_,_,rfl,SqL.of h3,(pd2.take j).map fun _ _ r=>r.tk (same_tk s3),fun z=>?_⟩
  refine ⟨_,rfl,o,C,dx,_,rfl,ho3,LK.cl,LK.n2,(show 2<1000 by decide),?_⟩
  refine ⟨_,rfl,q _ z _ upd_same fun b u e nb=>?_⟩
  rw [upd_ne nb]
  exact S3 _ _ e
def spNum:Sp:=fun vs H Q _=>∃ i:Int,vs=[.int i]/\Q (.bl true) H
theorem scNum:FnScope ["_law_found"] ["_law_found"] (defScope (top 47)):=⟨rfl,rfl,rfl,by decide +kernel,rfl,by decide +kernel,by decide +kernel⟩
theorem ok_num {f:Addr} {fd:FuncData} (F:Fun K "_law_num" "_law_num" (top 47) f fd) (T:Txt K mg):FnOk P w K mg base CX0 1 f fd ["_law_found"] spNum:=by
 refine F.ok scNum (fun vs H Q E h=>?_) (fun cdv A outer s H vs Q E hr h=>?_)
 ·obtain ⟨i,rfl,_⟩:=h
  rfl
 ·obtain ⟨i,rfl,k⟩:=h
  refine ⟨_,(pss_one (ps_ret (pe_and (pe_callB call_isT (by rfl) T.isinstance bt_isinstance (pa_cons (pv 0) (pa_cons (pe_ty rfl T.int bt_int) pa_nil))) (pe_one (pe_not (pe_callB call_isT (by rfl) T.isinstance bt_isinstance (pa_cons (pv 0) (pa_cons (pe_ty rfl T.bool bt_bool) pa_nil)))))))),?_⟩
  exact ⟨_,rfl,_,_,_,_,rfl,.int i,rfl,_,rfl,ifT rfl ⟨_,rfl,_,_,_,_,rfl,.int i,rfl,_,rfl,k⟩⟩
end
structure Bs (most room:Int) (over:Bool) (n:Ln) (pile:List Int) (turn:Int):Prop where
 nd:((n.pg.flatMap (·.cs)).map (·.tk)).Nodup
 tk:∀ c∈n.pg.flatMap (·.cs),c.tk≤n.tks
 le:((n.pg.flatMap (·.cs)).length:Int)≤n.tks
 pi:(wait n).map (·.tk)=pile
 ne:n.pg≠[]
 mo:n.most=most
 ro:n.room=room
 ov:n.over=over
 len:(n.pg.length:Int)≤most+eld n
 la:∀ t,n.last=some t->t<turn
 tu:n.tks≤turn
section
variable {most room:Int} {over:Bool} {n:Ln} {pile:List Int} {turn:Int}
theorem Bs.up (h:Bs most room over n pile turn):Bs most room over n pile (turn+1):=
 ⟨h.nd,h.tk,h.le,h.pi,h.ne,h.mo,h.ro,h.ov,h.len,fun t ht=>by have:=h.la t ht;omega,by have:=h.tu;omega⟩
theorem Bs.claim (h:Bs most room over n pile turn) (hm:2≤most) {nm:Str} {fs:List Fld}:∀ t,(claimM nm fs turn n).1=some t->t=n.tks+1/\Bs most room over (claimM nm fs turn n).2 (pile++[t]) (turn+1):=by
 intro t
 generalize hsz:1+(fs.length:Int)=sz
 generalize hn1:({ n with last:=some turn,tks:=n.tks+1 }:Ln)=n1
 have cm:claimM nm fs turn n=if (roomM sz n1).1=true then (some (roomM sz n1).2.tks,putCl (newCl (roomM sz n1).2.tks turn nm fs) sz (roomM sz n1).2) else (none,{ (roomM sz n1).2 with mis:=(roomM sz n1).2.mis+1 }):=by
  unfold claimM
  rw [hn1,hsz]
 have p1:n1.pg=n.pg:=by rw [← hn1]
 have t1:n1.tks=n.tks+1:=by rw [← hn1]
 have m1:n1.most=most:=by rw [← hn1];exact h.mo
 have e1:eld n1=eld n:=by rw [← hn1];rfl
 have hle:=h.len
 have htu:=h.tu
 have hlen:=h.le
 have put:∀ n2:Ln,roomM sz n1=(true,n2)->n2.tks=n.tks+1->(n2.pg.flatMap (·.cs)).Sublist (n.pg.flatMap (·.cs))->n2.pg≠[]->wait n2=wait n->n2.most=n1.most->n2.room=n1.room->n2.over=n1.over->eld n2=eld n->(n2.pg.length:Int)≤most+eld n->n2.last=n1.last->
  (claimM nm fs turn n).1=some t->t=n.tks+1/\Bs most room over (claimM nm fs turn n).2 (pile++[t]) (turn+1):=by
  intro n2 er et sb ne2 ew em ero eo ee ele ela
  rw [cm,er,if_pos rfl]
  intro ht
  injection ht with ht
  rw [et] at ht
  refine ⟨ht.symm,?_⟩
  subst ht
  obtain ⟨q,g,eq,_⟩:=last_of ne2
  have pe:=put_of (n:=n2) (c:=newCl n2.tks turn nm fs) (z:=sz) eq
  show Bs most room over (putCl (newCl n2.tks turn nm fs) sz n2) _ _
  have ww:=wait_put (n:=n2) (c:=newCl n2.tks turn nm fs) (z:=sz) eq rfl
  rw [pe] at ww ⊢
  have fl:(q++[({ g with cs:=g.cs++[newCl n2.tks turn nm fs],us:=g.us+sz }:Pg)]).flatMap (fun p:Pg=>p.cs)=n2.pg.flatMap (·.cs)++[newCl n2.tks turn nm fs]:=by
   rw [eq]
   simp [List.flatMap_append]
  refine ⟨?_,fun c m=>?_,?_,?_,by simp,em.trans m1,by rw [ero,← hn1];exact h.ro,by rw [eo,← hn1];exact h.ov,?_,fun t' ht'=>?_,by show n2.tks≤_;omega⟩
  ·show (((q++[_]).flatMap _).map _).Nodup
   rw [fl,List.map_append]
   refine List.nodup_append.mpr ⟨h.nd.sublist (sb.map _),by simp,fun a ma b mb z=>?_⟩
   obtain ⟨c,mc,rfl⟩:=List.mem_map.mp ma
   have mb:b=n2.tks:=by simpa [newCl] using mb
   have:=h.tk c (sb.subset mc)
   omega
  ·have m:c∈(q++[({ g with cs:=g.cs++[newCl n2.tks turn nm fs],us:=g.us+sz }:Pg)]).flatMap (fun p:Pg=>p.cs):=m
   rw [fl] at m
   show c.tk≤n2.tks
   rcases List.mem_append.mp m with m|m
   ·have:=h.tk c (sb.subset m)
    omega
   ·cases List.mem_singleton.mp m
    exact Int.le_refl _
  ·show (((q++[_]).flatMap _).length:Int)≤n2.tks
   rw [fl,List.length_append]
   have:=sb.length_le
   simp only [List.length_cons,List.length_nil]
   omega
  ·rw [ww,List.map_append,ew,h.pi]
   show pile++[n2.tks]=_
   rw [et]
  ·show ((q++[_]).length:Int)≤most+eld n2
   rw [ee]
   rw [eq] at ele
   simpa using ele
  ·have ht':n2.last=some t':=ht'
   rw [ela,← hn1] at ht'
   injection ht' with ht'
   omega
 by_cases h1:hdU n1+sz≤n1.room
 ·exact put n1 (by unfold roomM;rw [if_pos h1]) t1 (by rw [p1];exact List.Sublist.refl _) (by rw [p1];exact h.ne) (by unfold wait;rw [p1]) rfl rfl rfl e1 (by rw [p1];exact h.len) rfl
 ·by_cases h2:n1.most≤(n1.pg.length:Int)-eld n1
  ·cases ho:(!n1.over || !(opn (elC n1)).isEmpty) with
   | true=>
     have er:roomM sz n1=(false,n1):=by unfold roomM;rw [if_neg h1,if_pos h2,if_pos ho]
     rw [cm,er]
     intro ht
     cases ht
   | false=>
     have er:roomM sz n1=(true,addPg (loseM n1)):=by unfold roomM;rw [if_neg h1,if_pos h2,if_neg (by rw [ho];decide)]
     have hl2:eld n1+1<n1.pg.length:=by omega
     obtain ⟨X,p,q,B,sp,la,lv⟩:=leave_split (n:={ n1 with los:=n1.los+((n1.pg[eld n1]?.map (·.cs.length)).getD 0:Nat) }) (e:=eld n1) hl2
     have sp:n1.pg=X++p::q::B:=sp
     have ep:n1.pg[eld n1]?=some p:=by rw [sp,List.getElem?_append_right (by omega),la,Nat.sub_self];rfl
     have hp:opn p.cs=[]:=by
      rw [Bool.or_eq_false_iff] at ho
      have ho:=ho.2
      have ec:elC n1=p.cs:=by unfold elC;rw [ep];rfl
      rw [ec] at ho
      simpa using ho
     have lo:loseM n1={ n1 with los:=n1.los+((n1.pg[eld n1]?.map (·.cs.length)).getD 0:Nat),pg:=X++nextP p q::B }:=lv
     rw [lo] at er
     have sp2:n.pg=X++p::q::B:=by rw [← p1];exact sp
     refine put _ er t1 ?_ (by simp [addPg]) ?_ rfl rfl rfl e1 ?_ rfl
     ·show (((X++nextP p q::B)++[_]).flatMap _).Sublist _
      rw [sp2]
      simp only [List.flatMap_append,List.flatMap_cons,List.flatMap_nil,List.append_nil]
      exact (List.Sublist.refl _).append (List.sublist_append_right _ _)
     ·unfold wait
      show ((X++nextP p q::B)++[_]).flatMap _=_
      rw [sp2]
      simp [List.flatMap_append,hp,nextP]
      rfl
     ·have:=h.len
      rw [sp2] at this
      show (((X++nextP p q::B)++[_]).length:Int)≤_
      simp at this ⊢
      omega
  ·have er:roomM sz n1=(true,addPg n1):=by unfold roomM;rw [if_neg h1,if_neg h2]
   refine put _ er t1 ?_ (by simp [addPg]) ?_ rfl rfl rfl e1 ?_ rfl
   ·show ((n1.pg++[_]).flatMap _).Sublist _
    rw [p1]
    simp [List.flatMap_append]
   ·unfold wait
    show (n1.pg++[_]).flatMap _=_
    rw [p1]
    simp [List.flatMap_append,opn]
   ·show ((n1.pg++[_]).length:Int)≤_
    rw [p1] at h2 ⊢
    rw [e1,m1] at h2
    simp
    omega
theorem Bs.last {tk:Int} (h:Bs most room over n (pile++[tk]) turn):∃ r m,wait n=r++[m]/\m.tk=tk/\r.map (·.tk)=pile:=by
 have:=h.pi
 rcases List.eq_nil_or_concat (wait n) with e|⟨r,m,e⟩
 ·rw [e] at this
  simp at this
 ·rw [List.concat_eq_append] at e
  rw [e,List.map_append] at this
  have:=List.append_inj' this rfl
  exact ⟨r,m,e,by simpa using this.2,this.1⟩
theorem Bs.wnd (h:Bs most room over n pile turn):((wait n).map (·.tk)).Nodup:=h.nd.sublist ((wait_sub n.pg).map _)
theorem Bs.give {tk:Int} (h:Bs most room over n (pile++[tk]) turn):Bs most room over (giveM tk n) pile (turn+1):=by
 obtain ⟨r,m,ew,em,ep⟩:=h.last
 have nd:=h.wnd
 have tu:=h.tu
 have fl:(giveM tk n).pg.flatMap (·.cs)=(n.pg.flatMap (·.cs)).map (giveC tk):=flat_cs_give tk n.pg
 refine ⟨?_,fun c mc=>?_,?_,?_,?_,h.mo,h.ro,h.ov,?_,fun t ht=>by have:=h.la t ht;omega,by show n.tks≤turn+1;omega⟩
 ·rw [fl,List.map_map]
  have:((·.tk) ∘ giveC tk:Cl->Int)=(·.tk):=funext fun c=>(give_tk tk c).1
  rw [this]
  exact h.nd
 ·rw [fl] at mc
  obtain ⟨c0,m0,rfl⟩:=List.mem_map.mp mc
  rw [(give_tk tk c0).1]
  exact h.tk c0 m0
 ·rw [fl,List.length_map]
  exact h.le
 ·show (((n.pg.map fun p=>({ p with cs:=p.cs.map (giveC tk) }:Pg)).flatMap fun p=>opn p.cs)).map _=_
  rw [flat_opn_give]
  show ((wait n).filter _).map _=_
  rw [ew] at nd ⊢
  rw [filter_last nd em]
  exact ep
 ·show n.pg.map _≠[]
  intro z
  exact h.ne (List.map_eq_nil_iff.mp z)
 ·show ((n.pg.map _).length:Int)≤most+eld n
  rw [List.length_map]
  exact h.len
theorem Bs.throw {tk sz:Int} (h:Bs most room over n (pile++[tk]) turn):Bs most room over (throwM tk sz n) pile (turn+1):=by
 obtain ⟨r,m,ew,em,ep⟩:=h.last
 have nd:=h.wnd
 have tu:=h.tu
 obtain ⟨q,hd,e,_⟩:=last_of h.ne
 have sh:=sub_split (tk:=tk) (sz:=sz) e
 have ec:((subHd tk sz n).flatMap (·.cs))=n.pg.flatMap (·.cs):=by
  rw [sh,e,List.flatMap_append,List.flatMap_append]
  congr 1
  split <;> simp
 have eo:((subHd tk sz n).flatMap fun p=>opn p.cs)=wait n:=by
  unfold wait
  rw [sh,e,List.flatMap_append,List.flatMap_append]
  congr 1
  split <;> simp
 have el:(subHd tk sz n).length=n.pg.length:=by rw [sh,e];simp
 have sb:((throwM tk sz n).pg.flatMap (·.cs)).Sublist (n.pg.flatMap (·.cs)):=by
  show (((subHd tk sz n).map (woP tk)).flatMap (·.cs)).Sublist _
  rw [← ec]
  exact flat_cs_wo tk _
 refine ⟨h.nd.sublist (sb.map _),fun c mc=>h.tk c (sb.subset mc),by have:=sb.length_le;have:=h.le;show _≤n.tks;omega,?_,?_,h.mo,h.ro,h.ov,?_,fun t ht=>by have:=h.la t ht;omega,by show n.tks≤turn+1;omega⟩
 ·show (((subHd tk sz n).map (woP tk)).flatMap fun p=>opn p.cs).map _=_
  rw [flat_opn_wo,eo,ew]
  rw [ew] at nd
  rw [filter_last nd em]
  exact ep
 ·show (subHd tk sz n).map _≠[]
  intro z
  have:=List.map_eq_nil_iff.mp z
  rw [sh] at this
  simp at this
 ·show (((subHd tk sz n).map _).length:Int)≤most+eld n
  rw [List.length_map,el]
  exact h.len
theorem hold_drop {pl:Int}:∀ (r:List Pg) (p:Pg),∃ j,j<(p::r).length/\(holdR pl r p).map (fun q=>(q.cs,q.us))=((p::r).map fun q=>(q.cs,q.us)).drop j
 |[],p=>⟨0,by simp,rfl⟩
 | q::r,p=>by
   unfold holdR
   split
   ·obtain ⟨j,hj,e⟩:=hold_drop (pl:=pl) r (nextP p q)
    refine ⟨j+1,by simp only [List.length_cons] at hj ⊢;omega,?_⟩
    rw [e]
    rfl
   ·exact ⟨0,by simp,rfl⟩
theorem hold_cs {pg pg':List Pg} {j:Nat} (e:pg'.map (fun q=>(q.cs,q.us))=(pg.map fun q=>(q.cs,q.us)).drop j):(pg'.flatMap (·.cs)).Sublist (pg.flatMap (·.cs))/\pg'.length=pg.length-j:=by
 have f:∀ xs:List Pg,xs.flatMap (·.cs)=(xs.map fun q=>(q.cs,q.us)).flatMap (·.1):=fun xs=>by rw [List.flatMap_map]
 constructor
 ·rw [f pg',f pg,e]
  have:∀ (xs:List (List Cl×Int)) (j:Nat),((xs.drop j).flatMap (·.1)).Sublist (xs.flatMap (·.1)):=by
   intro xs
   induction xs with
   |nil=>intro j;simp
   | cons x r ih=>
     intro j
     cases j with
     |zero=>exact List.Sublist.refl _
     | succ j=>
       rw [List.drop_succ_cons,List.flatMap_cons]
       exact (ih j).trans (List.sublist_append_right _ _)
  exact this _ j
 ·have:=congrArg List.length e
  simpa using this
theorem Bs.take (h:Bs most room over n pile turn):Bs most room over (takeM n).2 pile turn/\∃ j,j<n.pg.length/\(takeM n).2.pg.map (fun q=>(q.cs,q.us))=(n.pg.map fun q=>(q.cs,q.us)).drop j/\(((takeM n).2.held=n.held/\j=0)∨(takeM n).2.held=true)/\(takeM n).2.tks=n.tks/\(takeM n).2.los=n.los/\(takeM n).2.giv=n.giv:=by
 have tu:=h.tu
 have pl:0<n.pg.length:=List.length_pos_iff.mpr h.ne
 unfold takeM
 cases hl:lookM n with
 |nil=>exact ⟨h,0,pl,rfl,.inl ⟨rfl,rfl⟩,rfl,rfl,rfl⟩
 | cons t r=>
   cases t with
   |lost m=>exact ⟨⟨h.nd,h.tk,h.le,h.pi,h.ne,h.mo,h.ro,h.ov,h.len,h.la,h.tu⟩,0,pl,rfl,.inl ⟨rfl,rfl⟩,rfl,rfl,rfl⟩
   | ev q c=>
     have hin:(q,c)∈stand n:=tfrom_in (pl:=n.told) (by
      have:Tg.ev q c∈lookM n:=by rw [hl];exact List.mem_cons_self ..
      exact this)
     obtain ⟨_,hw⟩:=hok_of hin
     cases hp:n.pg with
     |nil=>exact absurd hp h.ne
     | cons p r'=>
       obtain ⟨j,hj,e⟩:=hold_drop (pl:=q) r' p
       have e':(holdP q n.pg).map (fun q=>(q.cs,q.us))=(n.pg.map fun q=>(q.cs,q.us)).drop j:=by rw [hp];exact e
       obtain ⟨sb,ll⟩:=hold_cs e'
       rw [← hp]
       have nj:j<n.pg.length:=by rw [hp];exact hj
       refine ⟨⟨h.nd.sublist (sb.map _),fun c mc=>h.tk c (sb.subset mc),?_,?_,?_,h.mo,h.ro,h.ov,?_,h.la,h.tu⟩,j,nj,e',.inr rfl,rfl,rfl,rfl⟩
       ·have:=sb.length_le
        have:=h.le
        show (((holdP q n.pg).flatMap (·.cs)).length:Int)≤n.tks
        omega
       ·show ((holdP q n.pg).flatMap fun p=>opn p.cs).map _=_
        rw [hw]
        exact h.pi
       ·show holdP q n.pg≠[]
        intro z
        rw [z] at ll
        simp at ll
        omega
       ·show ((holdP q n.pg).length:Int)≤most+((1:Nat):Int)
        have:=h.len
        have el:eld n≤1:=eld_le n
        omega
end
def pk (pg:List Pg):List (List Cl×Int):=pg.map fun q=>(q.cs,q.us)
theorem pk_len (pg:List Pg):(pk pg).length=pg.length:=List.length_map ..
theorem pk_put {n:Ln} {X:List (List Cl×Int)} {z:List Cl×Int} (h:pk n.pg=X++[z]) (c:Cl) (sz:Int):pk (putCl c sz n).pg=X++[(z.1++[c],z.2+sz)]/\(putCl c sz n).held=n.held/\(putCl c sz n).tks=n.tks/\(putCl c sz n).giv=n.giv/\(putCl c sz n).los=n.los:=by
 have ne:n.pg≠[]:=by
  intro e
  rw [e] at h
  simp [pk] at h
 obtain ⟨q,g,e,_⟩:=last_of ne
 have h2:pk n.pg=pk q++[(g.cs,g.us)]:=by rw [e];simp [pk]
 have:=List.append_inj' (h.symm.trans h2) rfl
 have e1:X=pk q:=this.1
 have e2:z=(g.cs,g.us):=by simpa using this.2
 rw [put_of e,e1,e2]
 exact ⟨by simp [pk],rfl,rfl,rfl,rfl⟩
theorem pk_hd {n:Ln} {X:List (List Cl×Int)} {z:List Cl×Int} (h:pk n.pg=X++[z]):hdU n=z.2:=by
 have ne:n.pg≠[]:=by
  intro e
  rw [e] at h
  simp [pk] at h
 obtain ⟨q,g,e,el⟩:=last_of ne
 have h2:pk n.pg=pk q++[(g.cs,g.us)]:=by rw [e];simp [pk]
 have:=List.append_inj' (h.symm.trans h2) rfl
 have e2:z=(g.cs,g.us):=by simpa using this.2
 unfold hdU
 rw [el,e2]
 rfl
theorem claim_cases {nm:Str} {fs:List Fld} {tm:Int} {n:Ln} {X:List (List Cl×Int)} {z:List Cl×Int} (hP:pk n.pg=X++[z]) (hm:2≤n.most) :
 ((z.2+(1+(fs.length:Int))≤n.room/\(claimM nm fs tm n).1=some (n.tks+1)/\pk (claimM nm fs tm n).2.pg=X++[(z.1++[newCl (n.tks+1) tm nm fs],z.2+(1+(fs.length:Int)))]/\(claimM nm fs tm n).2.los=n.los)∨
  (n.room<z.2+(1+(fs.length:Int))/\((pk n.pg).length:Int)-eld n<n.most/\(claimM nm fs tm n).1=some (n.tks+1)/\pk (claimM nm fs tm n).2.pg=pk n.pg++[([newCl (n.tks+1) tm nm fs],0+(1+(fs.length:Int)))]/\(claimM nm fs tm n).2.los=n.los)∨
  (n.room<z.2+(1+(fs.length:Int))/\n.most≤((pk n.pg).length:Int)-eld n/\(claimM nm fs tm n).1=none/\(n.over=false∨∃ e,(pk n.pg)[eld n]?=some e/\opn e.1≠[]))∨
  (n.room<z.2+(1+(fs.length:Int))/\n.most≤((pk n.pg).length:Int)-eld n/\n.over=true/\(∃ e,(pk n.pg)[eld n]?=some e/\opn e.1=[]/\(claimM nm fs tm n).2.los=n.los+(e.1.length:Int))/\(claimM nm fs tm n).1=some (n.tks+1)/\pk (claimM nm fs tm n).2.pg=(pk n.pg).eraseIdx (eld n)++[([newCl (n.tks+1) tm nm fs],0+(1+(fs.length:Int)))]))/\
 (claimM nm fs tm n).2.held=n.held/\(claimM nm fs tm n).2.tks=n.tks+1/\(claimM nm fs tm n).2.giv=n.giv:=by
 generalize hsz:1+(fs.length:Int)=sz
 generalize hn1:({ n with last:=some tm,tks:=n.tks+1 }:Ln)=n1
 have cm:claimM nm fs tm n=if (roomM sz n1).1=true then (some (roomM sz n1).2.tks,putCl (newCl (roomM sz n1).2.tks tm nm fs) sz (roomM sz n1).2) else (none,{ (roomM sz n1).2 with mis:=(roomM sz n1).2.mis+1 }):=by
  unfold claimM
  rw [hn1,hsz]
 have p1:n1.pg=n.pg:=by rw [← hn1]
 have t1:n1.tks=n.tks+1:=by rw [← hn1]
 have m1:n1.most=n.most:=by rw [← hn1]
 have r1:n1.room=n.room:=by rw [← hn1]
 have e1:eld n1=eld n:=by rw [← hn1];rfl
 have o1:n1.over=n.over:=by rw [← hn1]
 have h1:n1.held=n.held:=by rw [← hn1]
 have g1:n1.giv=n.giv:=by rw [← hn1]
 have l1:n1.los=n.los:=by rw [← hn1]
 have hu:hdU n1=z.2:=pk_hd (by rw [p1];exact hP)
 have pl:(pk n.pg).length=n.pg.length:=pk_len _
 by_cases f1:z.2+sz≤n.room
 ·have er:roomM sz n1=(true,n1):=by unfold roomM;rw [hu,r1,if_pos f1]
  rw [cm,er,if_pos rfl]
  obtain ⟨a1,a2,a3,a4,a5⟩:=pk_put (n:=n1) (by rw [p1];exact hP) (newCl n1.tks tm nm fs) sz
  refine ⟨.inl ⟨f1,by rw [t1],by rw [← t1];exact a1,a5.trans l1⟩,a2.trans h1,a3.trans t1,a4.trans g1⟩
 ·by_cases f2:n.most≤(n.pg.length:Int)-eld n
  ·cases ho:(!n1.over || !(opn (elC n1)).isEmpty) with
   | true=>
     have er:roomM sz n1=(false,n1):=by unfold roomM;rw [hu,r1,if_neg f1,m1,p1,e1,if_pos f2,if_pos ho]
     rw [cm,er]
     refine ⟨.inr (.inr (.inl ⟨by omega,by omega,rfl,?_⟩)),h1,t1,g1⟩
     rw [Bool.or_eq_true] at ho
     rcases ho with ho|ho
     ·left
      rw [o1] at ho
      simpa using ho
     ·right
      have el:eld n≤1:=eld_le n
      have hlt:eld n<n.pg.length:=by omega
      refine ⟨(n.pg[eld n].cs,n.pg[eld n].us),by unfold pk;rw [List.getElem?_map,List.getElem?_eq_getElem hlt];rfl,?_⟩
      unfold elC at ho
      rw [e1,p1,List.getElem?_eq_getElem hlt] at ho
      simpa using ho
   | false=>
     have er:roomM sz n1=(true,addPg (loseM n1)):=by unfold roomM;rw [hu,r1,if_neg f1,m1,p1,e1,if_pos f2,if_neg (by rw [ho];decide)]
     have hl2:eld n1+1<n1.pg.length:=by rw [p1,e1];omega
     obtain ⟨Y,p,q,B,sp,la,lv⟩:=leave_split (n:={ n1 with los:=n1.los+((n1.pg[eld n1]?.map (·.cs.length)).getD 0:Nat) }) (e:=eld n1) hl2
     have sp:n1.pg=Y++p::q::B:=sp
     have ep:n1.pg[eld n1]?=some p:=by rw [sp,List.getElem?_append_right (by omega),la,Nat.sub_self];rfl
     have lo:loseM n1={ n1 with los:=n1.los+((n1.pg[eld n1]?.map (·.cs.length)).getD 0:Nat),pg:=Y++nextP p q::B }:=lv
     have hlos:(addPg (loseM n1)).los=n.los+(p.cs.length:Int):=by
      show (loseM n1).los=_
      rw [lo]
      show n1.los+((n1.pg[eld n1]?.map (·.cs.length)).getD 0:Nat)=_
      rw [ep,l1]
      rfl
     rw [Bool.or_eq_false_iff] at ho
     have hp:opn p.cs=[]:=by
      have ho:=ho.2
      have ec:elC n1=p.cs:=by unfold elC;rw [ep];rfl
      rw [ec] at ho
      simpa using ho
     have pk2:pk (addPg (loseM n1)).pg=(pk n.pg).eraseIdx (eld n)++[([],0)]:=by
      rw [lo]
      show pk ((Y++nextP p q::B)++[_])=_
      rw [← p1,sp,← e1]
      unfold pk
      simp only [List.map_append,List.map_cons,List.map_nil]
      rw [List.eraseIdx_append_of_length_le (by rw [List.length_map];omega),List.length_map,la,Nat.sub_self]
      rfl
     have tl:(addPg (loseM n1)).tks=n.tks+1:=by rw [lo];exact t1
     have hl:(addPg (loseM n1)).held=n.held:=by rw [lo];exact h1
     have gl:(addPg (loseM n1)).giv=n.giv:=by rw [lo];exact g1
     rw [cm,er,if_pos rfl]
     obtain ⟨a1,a2,a3,a4,a5⟩:=pk_put pk2 (newCl (addPg (loseM n1)).tks tm nm fs) sz
     refine ⟨.inr (.inr (.inr ⟨by omega,by omega,by rw [← o1];simpa using ho.1,⟨(p.cs,p.us),?_,hp,a5.trans hlos⟩,by rw [tl],by rw [← tl];exact a1⟩)),a2.trans hl,a3.trans tl,a4.trans gl⟩
     unfold pk
     rw [List.getElem?_map,← e1,← p1,ep]
     rfl
  ·have er:roomM sz n1=(true,addPg n1):=by unfold roomM;rw [hu,r1,if_neg f1,m1,p1,e1,if_neg f2]
   have pk2:pk (addPg n1).pg=pk n.pg++[([],0)]:=by
    show pk (n1.pg++[_])=_
    rw [p1]
    simp [pk]
   rw [cm,er,if_pos rfl]
   obtain ⟨a1,a2,a3,a4,a5⟩:=pk_put pk2 (newCl (addPg n1).tks tm nm fs) sz
   refine ⟨.inr (.inl ⟨by omega,by omega,by show some n1.tks=_;rw [t1],by rw [← t1];exact a1,a5.trans l1⟩),a2.trans h1,a3.trans t1,a4.trans g1⟩
structure Sim (n1 n2:Ln):Prop where
 hf:n1.held=false
 tks:n1.tks=n2.tks
 giv:n1.giv=n2.giv
 los:n2.los≤n1.los
 rel:(n2.held=false/\pk n2.pg=pk n1.pg)∨(n2.held=true/\∃ k,k<(pk n1.pg).length/\(pk n2.pg=(pk n1.pg).drop k∨∃ h,opn h.1=[]/\pk n2.pg=h::(pk n1.pg).drop k))
theorem Sim.claim {most room:Int} {over:Bool} {n1 n2:Ln} {pile:List Int} {turn:Int} (h:Sim n1 n2) (b1:Bs most room over n1 pile turn) (b2:Bs most room over n2 pile turn) (hm:2≤most) {nm:Str} {fs:List Fld} {tm:Int} {t:Int} (ht:(claimM nm fs tm n1).1=some t) :
 (claimM nm fs tm n2).1=some t/\Sim (claimM nm fs tm n1).2 (claimM nm fs tm n2).2:=by
 have ne1:pk n1.pg≠[]:=by
  intro z
  exact b1.ne (List.map_eq_nil_iff.mp z)
 obtain ⟨X,z,e1⟩:∃ X z,pk n1.pg=X++[z]:=by
  rcases List.eq_nil_or_concat (pk n1.pg) with e|⟨X,z,e⟩
  ·exact absurd e ne1
  ·exact ⟨X,z,by rw [e,List.concat_eq_append]⟩
 have el1:eld n1=0:=by unfold eld;rw [h.hf];rfl
 have len1:=b1.len
 have pl1:=pk_len n1.pg
 have l1:(pk n1.pg).length=X.length+1:=by rw [e1];simp
 have dr:∀ k,k<(pk n1.pg).length->(pk n1.pg).drop k=X.drop k++[z]:=fun k hk=>by rw [e1,List.drop_append_of_le_length (by omega)]
 obtain ⟨Y,e2⟩:∃ Y,pk n2.pg=Y++[z]:=by
  rcases h.rel with ⟨_,e⟩|⟨_,k,hk,e|⟨g,_,e⟩⟩
  ·exact ⟨X,e.trans e1⟩
  ·exact ⟨X.drop k,by rw [e,dr k hk]⟩
  ·exact ⟨g::X.drop k,by rw [e,dr k hk];rfl⟩
 have C1:=claim_cases (nm:=nm) (fs:=fs) (tm:=tm) e1 (by rw [b1.mo];exact hm)
 have C2:=claim_cases (nm:=nm) (fs:=fs) (tm:=tm) e2 (by rw [b2.mo];exact hm)
 obtain ⟨C1,hh1,ht1,hg1⟩:=C1
 obtain ⟨C2,hh2,ht2,hg2⟩:=C2
 rw [b1.mo,b1.ro,b1.ov] at C1
 rw [b2.mo,b2.ro,b2.ov] at C2
 rw [← h.tks] at C2
 rw [el1] at C1
 have tkk:(claimM nm fs tm n1).2.tks=(claimM nm fs tm n2).2.tks:=by rw [ht1,ht2,h.tks]
 have gvv:(claimM nm fs tm n1).2.giv=(claimM nm fs tm n2).2.giv:=by rw [hg1,hg2,h.giv]
 have hf':(claimM nm fs tm n1).2.held=false:=hh1.trans h.hf
 have eld2:eld n2=if n2.held=true then 1 else 0:=by unfold eld;cases n2.held <;> rfl
 have hlos:=h.los
 rcases C1 with ⟨f1,s1,g1,o1⟩|⟨f1,k1,s1,g1,o1⟩|⟨f1,k1,s1,_⟩|⟨f1,k1,ov1,⟨ee,ee1,ee2,o1⟩,s1,g1⟩
 ·
  rcases C2 with ⟨f2,s2,g2,o2⟩|⟨f2,_⟩|⟨f2,_⟩|⟨f2,_⟩
  ·refine ⟨by rw [s2,← s1];exact ht,hf',tkk,gvv,by omega,?_⟩
   rw [hh2,g1,g2]
   rcases h.rel with ⟨a,e⟩|⟨a,k,hk,e|⟨g,og,e⟩⟩
   ·left
    have:=List.append_inj' ((e2.symm.trans e).trans e1) rfl
    exact ⟨a,by rw [this.1]⟩
   ·right
    rw [dr k hk] at e
    have:=List.append_inj' (e2.symm.trans e) rfl
    refine ⟨a,k,by rw [List.length_append];simp;omega,.inl ?_⟩
    rw [List.drop_append_of_le_length (by omega),this.1]
   ·right
    rw [dr k hk,← List.cons_append] at e
    have:=List.append_inj' (e2.symm.trans e) rfl
    refine ⟨a,k,by rw [List.length_append];simp;omega,.inr ⟨g,og,?_⟩⟩
    rw [List.drop_append_of_le_length (by omega),this.1]
    rfl
  ·omega
  ·omega
  ·omega
 ·
  rcases C2 with ⟨f2,_⟩|⟨f2,k2,s2,g2,o2⟩|⟨f2,k2,_⟩|⟨f2,k2,_⟩
  ·omega
  ·refine ⟨by rw [s2,← s1];exact ht,hf',tkk,gvv,by omega,?_⟩
   rw [hh2,g1,g2]
   rcases h.rel with ⟨a,e⟩|⟨a,k,hk,e|⟨g,og,e⟩⟩
   ·exact .inl ⟨a,by rw [e]⟩
   ·exact .inr ⟨a,k,by rw [List.length_append];omega,.inl (by rw [List.drop_append_of_le_length (by omega),e])⟩
   ·exact .inr ⟨a,k,by rw [List.length_append];omega,.inr ⟨g,og,by rw [List.drop_append_of_le_length (by omega),e];rfl⟩⟩
  all_goals
   exfalso
   rcases h.rel with ⟨a,e⟩|⟨a,k,hk,e|⟨g,og,e⟩⟩
   ·rw [e,eld2,a] at k2
    simp at k2 k1
    omega
   ·rw [e,eld2,a] at k2
    simp at k2 k1
    omega
   ·rw [e,eld2,a] at k2
    simp at k2 k1
    omega
 ·rw [s1] at ht
  cases ht
 ·
  have e0:(pk n1.pg).eraseIdx 0=(pk n1.pg).drop 1:=by cases pk n1.pg <;> rfl
  rw [e0] at g1
  have l2:2≤(pk n1.pg).length:=by omega
  have w1:∀ (w:List Cl×Int),((pk n1.pg).drop 1++[w]).length=(pk n1.pg).length:=fun w=>by rw [List.length_append,List.length_drop];simp;omega
  have lm:((pk n1.pg).length:Int)≤most:=by rw [el1] at len1;omega
  rcases C2 with ⟨f2,_⟩|⟨f2,k2,s2,g2,o2⟩|⟨f2,k2,s2,no2⟩|⟨f2,k2,ov2,⟨e9,e91,e92,o2⟩,s2,g2⟩
  ·omega
  ·
   refine ⟨by rw [s2,← s1];exact ht,hf',tkk,gvv,by omega,?_⟩
   rw [hh2,g1,g2]
   rcases h.rel with ⟨a,e⟩|⟨a,k,hk,e|⟨g,og,e⟩⟩
   ·exfalso
    rw [e,eld2,a] at k2
    simp at k2 k1
    omega
   ·right
    refine ⟨a,k-1,by rw [w1];omega,?_⟩
    cases k with
    | zero=>
      right
      refine ⟨ee,ee2,?_⟩
      rw [e,List.drop_zero,Nat.zero_sub,List.drop_zero]
      cases hp:pk n1.pg with
      |nil=>exact absurd hp ne1
      | cons x r=>
        rw [hp] at ee1
        have:x=ee:=by simpa using ee1
        rw [this]
        rfl
    | succ k=>
      left
      rw [e,Nat.add_sub_cancel,List.drop_append_of_le_length (by rw [List.length_drop];omega),List.drop_drop,Nat.add_comm 1 k]
   ·right
    have k1':1≤k:=by
     rw [e,eld2,a] at k2
     simp at k2 k1
     omega
    refine ⟨a,k-1,by rw [w1];omega,.inr ⟨g,og,?_⟩⟩
    rw [e,List.drop_append_of_le_length (by rw [List.length_drop];omega),List.drop_drop,show 1+(k-1)=k by omega]
    rfl
  ·
   exfalso
   rcases h.rel with ⟨a,e⟩|⟨a,k,hk,e|⟨g,og,e⟩⟩
   ·have e2':eld n2=0:=by rw [eld2,a];rfl
    rcases no2 with z9|⟨q,hq,hq2⟩
    ·rw [ov1] at z9;cases z9
    ·rw [e,e2',ee1] at hq
     cases hq
     exact hq2 ee2
   ·rw [e,eld2,a] at k2
    simp at k2 k1
    omega
   ·have e2':eld n2=1:=by rw [eld2,a];rfl
    have kz:k=0:=by
     rw [e,e2'] at k2
     simp at k2 k1
     omega
    subst kz
    rcases no2 with z9|⟨q,hq,hq2⟩
    ·rw [ov1] at z9;cases z9
    ·rw [e,e2',List.drop_zero,List.getElem?_cons_succ,ee1] at hq
     cases hq
     exact hq2 ee2
  ·
   refine ⟨by rw [s2,← s1];exact ht,hf',tkk,gvv,?_,?_⟩
   ·rw [o1,o2]
    have:e9=ee:=by
     rcases h.rel with ⟨a,e⟩|⟨a,k,hk,e|⟨g,og,e⟩⟩
     ·have e2':eld n2=0:=by rw [eld2,a];rfl
      rw [e,e2',ee1] at e91
      exact (Option.some.inj e91).symm
     ·exfalso
      rw [e,eld2,a] at k2
      simp at k2 k1
      omega
     ·have e2':eld n2=1:=by rw [eld2,a];rfl
      have kz:k=0:=by
       rw [e,e2'] at k2
       simp at k2 k1
       omega
      subst kz
      rw [e,e2',List.drop_zero,List.getElem?_cons_succ,ee1] at e91
      exact (Option.some.inj e91).symm
    rw [this]
    omega
   ·rw [hh2,g1,g2]
    rcases h.rel with ⟨a,e⟩|⟨a,k,hk,e|⟨g,og,e⟩⟩
    ·have e2':eld n2=0:=by rw [eld2,a];rfl
     exact .inl ⟨a,by rw [e,e2',e0]⟩
    ·exfalso
     rw [e,eld2,a] at k2
     simp at k2 k1
     omega
    ·right
     have e2':eld n2=1:=by rw [eld2,a];rfl
     have kz:k=0:=by
      rw [e,e2'] at k2
      simp at k2 k1
      omega
     subst kz
     refine ⟨a,0,by rw [w1];omega,.inr ⟨g,og,?_⟩⟩
     rw [e,e2',List.drop_zero,List.drop_zero]
     show g::(pk n1.pg).eraseIdx 0++_=_
     rw [e0]
     rfl
section
variable {n1 n2:Ln}
theorem pk_wait (n:Ln):wait n=(pk n.pg).flatMap fun x=>opn x.1:=by
 unfold wait pk
 rw [List.flatMap_map]
theorem Sim.opens (h:Sim n1 n2):∀ m∈wait n2,m∈wait n1:=by
 intro m mm
 rw [pk_wait] at mm ⊢
 obtain ⟨x,mx,mo⟩:=List.mem_flatMap.mp mm
 refine List.mem_flatMap.mpr ⟨x,?_,mo⟩
 rcases h.rel with ⟨_,e⟩|⟨_,k,_,e|⟨g,og,e⟩⟩
 ·rw [← e];exact mx
 ·rw [e] at mx;exact List.mem_of_mem_drop mx
 ·rw [e] at mx
  rcases List.mem_cons.mp mx with rfl|mx
  ·rw [og] at mo;cases mo
  ·exact List.mem_of_mem_drop mx
theorem Sim.map {f:List Cl×Int->List Cl×Int} {n1' n2':Ln} (h:Sim n1 n2) (e1:pk n1'.pg=(pk n1.pg).map f) (e2:pk n2'.pg=(pk n2.pg).map f) (fo:∀ x,opn x.1=[]->opn (f x).1=[]) (h1:n1'.held=n1.held) (h2:n2'.held=n2.held) (t1:n1'.tks=n1.tks) (t2:n2'.tks=n2.tks) (g:n1'.giv=n2'.giv) (l1:n1'.los=n1.los) (l2:n2'.los=n2.los):Sim n1' n2':=by
 refine ⟨h1.trans h.hf,by rw [t1,t2];exact h.tks,g,by rw [l1,l2];exact h.los,?_⟩
 rw [h2,e1,e2]
 rcases h.rel with ⟨a,e⟩|⟨a,k,hk,e|⟨q,og,e⟩⟩
 ·exact .inl ⟨a,by rw [e]⟩
 ·exact .inr ⟨a,k,by rw [List.length_map];exact hk,.inl (by rw [e,List.map_drop])⟩
 ·exact .inr ⟨a,k,by rw [List.length_map];exact hk,.inr ⟨f q,fo q og,by rw [e,List.map_cons,List.map_drop]⟩⟩
theorem Sim.give {tk:Int} (h:Sim n1 n2):Sim (giveM tk n1) (giveM tk n2):=by
 have ek:∀ n:Ln,pk (giveM tk n).pg=(pk n.pg).map fun x=>(x.1.map (giveC tk),x.2):=fun n=>by
  unfold pk giveM
  rw [List.map_map,List.map_map]
  rfl
 refine h.map (ek n1) (ek n2) (fun x hx=>?_) rfl rfl rfl rfl (by show n1.giv+1=n2.giv+1;rw [h.giv]) rfl rfl
 show opn (x.1.map (giveC tk))=[]
 rw [opn_give,hx]
 rfl
def subK (tk sz:Int) (x:List Cl×Int):List Cl×Int:=if x.1.getLast?.map (·.tk)=some tk then (x.1,x.2-sz) else x
theorem pk_throw {tk sz:Int} {n:Ln} {X:List (List Cl×Int)} {z:List Cl×Int} (h:pk n.pg=X++[z]):pk (throwM tk sz n).pg=(X++[subK tk sz z]).map fun x=>(wto tk x.1,x.2):=by
 have ne:n.pg≠[]:=by
  intro e
  rw [e] at h
  simp [pk] at h
 obtain ⟨q,g,e,_⟩:=last_of ne
 have h2:pk n.pg=pk q++[(g.cs,g.us)]:=by rw [e];simp [pk]
 have:=List.append_inj' (h.symm.trans h2) rfl
 have e1:X=pk q:=this.1
 have e2:z=(g.cs,g.us):=by simpa using this.2
 show pk ((subHd tk sz n).map (woP tk))=_
 rw [sub_split e,e1,e2]
 unfold pk subK lastTk
 simp only [List.map_append,List.map_map,List.map_cons,List.map_nil]
 congr 1
 split <;> rfl
theorem Sim.throw {most room:Int} {over:Bool} {pile pile':List Int} {turn turn' tk sz:Int} (h:Sim n1 n2) (b1:Bs most room over n1 pile turn):Sim (throwM tk sz n1) (throwM tk sz n2):=by
 have ne1:pk n1.pg≠[]:=by
  intro z
  exact b1.ne (List.map_eq_nil_iff.mp z)
 obtain ⟨X,z,e1⟩:∃ X z,pk n1.pg=X++[z]:=by
  rcases List.eq_nil_or_concat (pk n1.pg) with e|⟨X,z,e⟩
  ·exact absurd e ne1
  ·exact ⟨X,z,by rw [e,List.concat_eq_append]⟩
 have l1:(pk n1.pg).length=X.length+1:=by rw [e1];simp
 have dr:∀ k,k<(pk n1.pg).length->(pk n1.pg).drop k=X.drop k++[z]:=fun k hk=>by rw [e1,List.drop_append_of_le_length (by omega)]
 have t1:=pk_throw (tk:=tk) (sz:=sz) e1
 refine ⟨h.hf,h.tks,h.giv,h.los,?_⟩
 rw [t1]
 have w0:∀ x:List Cl×Int,opn x.1=[]->opn (wto tk x.1)=[]:=fun x hx=>by
  rw [opn_wto,hx]
  rfl
 rcases h.rel with ⟨a,e⟩|⟨a,k,hk,e|⟨g,og,e⟩⟩
 ·left
  exact ⟨a,pk_throw (e.trans e1)⟩
 ·right
  rw [dr k hk] at e
  refine ⟨a,k,by rw [List.length_map,List.length_append];simp;omega,.inl ?_⟩
  rw [pk_throw e,← List.map_drop,List.drop_append_of_le_length (by omega)]
 ·right
  rw [dr k hk,← List.cons_append] at e
  refine ⟨a,k,by rw [List.length_map,List.length_append];simp;omega,.inr ⟨(wto tk g.1,g.2),w0 g og,?_⟩⟩
  rw [pk_throw e,← List.map_drop,List.drop_append_of_le_length (by omega),List.cons_append,List.map_cons]
theorem Sim.take {most room:Int} {over:Bool} {pile:List Int} {turn:Int} (h:Sim n1 n2) (b2:Bs most room over n2 pile turn):Sim n1 (takeM n2).2:=by
 obtain ⟨_,j,hj,e,hh,t,l,g⟩:=b2.take
 have e:pk (takeM n2).2.pg=(pk n2.pg).drop j:=e
 have pl2:=pk_len n2.pg
 refine ⟨h.hf,by rw [t];exact h.tks,by rw [g];exact h.giv,by rw [l];exact h.los,?_⟩
 rcases hh with ⟨h0,j0⟩|h0
 ·subst j0
  rw [h0,e,List.drop_zero]
  exact h.rel
 ·right
  refine ⟨h0,?_⟩
  rw [e]
  rcases h.rel with ⟨a,e2⟩|⟨a,k,hk,e2|⟨q,og,e2⟩⟩
  ·exact ⟨j,by rw [← e2];omega,.inl (by rw [e2])⟩
  ·rw [e2,List.length_drop] at pl2
   exact ⟨k+j,by omega,.inl (by rw [e2,List.drop_drop])⟩
  ·rw [e2,List.length_cons,List.length_drop] at pl2
   cases j with
   |zero=>exact ⟨k,hk,.inr ⟨q,og,by rw [e2,List.drop_zero]⟩⟩
   |succ j=>exact ⟨k+j,by omega,.inl (by rw [e2,List.drop_succ_cons,List.drop_drop])⟩
end
structure LkNe (Z:LC) (C:Addr):Prop where
 k:C≠Z.k
 c:C≠Z.c
 p:C≠Z.p
 l:C≠Z.l
structure YW (Z:LC) (C p dc lk lp lo:Addr) (k1 k2:LA) (n1 n2:Ln) (pile:List Int) (H:Hp):Prop where
 D:Dr H p dc
 ks:∃ ys,H lk=some (.lst ys)/\ys≠[]/\ys.length≤3/\∀ y∈ys,KsAt H y
 l1:LnAt Z H k1 n1
 l2:LnAt Z H k2 n2
 dj:Dj k1 k2
 lok:∃ dx r,H lo=some (.ins C dx (lkF k2.a r))
 hq:H lp=some (.lst (pile.map V.int))
 nk1:lk∉k1.ls
 nk2:lk∉k2.ls
 nq1:lp∉k1.ls
 nq2:lp∉k2.ls
 nd1:dc∉k1.ls
 nd2:dc∉k2.ls
 kq:lk≠lp
 dq:lp≠dc
section
variable {Z:LC} {C p dc lk lp lo:Addr} {k1 k2:LA} {n1 n2:Ln} {pile:List Int} {H H':Hp}
theorem LnAt.own_cls {k:LA} {n:Ln} {b:Addr} (h:LnAt Z H k n) (m:b∈k.own):∃ C dx fs,H b=some (.ins C dx fs)/\(C=Z.l∨C=Z.p∨C=Z.c):=by
 rcases List.mem_cons.mp m with rfl|m
 ·obtain ⟨dx,e⟩:=h.ob
  exact ⟨_,_,_,e,.inl rfl⟩
 ·rcases List.mem_append.mp m with m|m
  ·obtain ⟨s,ms,rfl⟩:=List.mem_map.mp m
   obtain ⟨i,hi⟩:=List.mem_iff_getElem?.mp ms
   obtain ⟨y,_,r⟩:=h.pg.at hi
   obtain ⟨dx,e⟩:=r.ob
   exact ⟨_,_,_,e,.inr (.inl rfl)⟩
  ·obtain ⟨s,ms,mb⟩:=List.mem_flatMap.mp m
   obtain ⟨i,hi⟩:=List.mem_iff_getElem?.mp ms
   obtain ⟨y,_,r⟩:=h.pg.at hi
   obtain ⟨j,hj⟩:=List.mem_iff_getElem?.mp mb
   obtain ⟨z,_,rz⟩:=r.cs.at hj
   obtain ⟨dx,fs,e⟩:=rz.ins
   exact ⟨_,_,_,e,.inr (.inr rfl)⟩
theorem YW.same (h:YW Z C p dc lk lp lo k1 k2 n1 n2 pile H) (s:Same H H'):YW Z C p dc lk lp lo k1 k2 n1 n2 pile H':=by
 obtain ⟨ys,e,y1,y2,y3⟩:=h.ks
 obtain ⟨dx,r,el⟩:=h.lok
 exact ⟨h.D.mono s,⟨ys,s _ _ e,y1,y2,fun y m=>(y3 y m).tk (same_tk s)⟩,h.l1.same s,h.l2.same s,h.dj,⟨dx,r,s _ _ el⟩,s _ _ h.hq,h.nk1,h.nk2,h.nq1,h.nq2,h.nd1,h.nd2,h.kq,h.dq⟩
theorem LnAt.keep {k:LA} {n:Ln} (h:LnAt Z H k n) (keep:∀ c o,H c=some o->(∀ kvs,o≠.dK kvs)->H' c=some o):LnAt Z H' k n:=by
 refine h.stay ⟨fun c xs eo=>keep _ _ eo (by intro _ z;cases z),fun c dx fs' eo=>keep _ _ eo (by intro _ z;cases z)⟩ (fun b mb=>?_) (fun b mb=>?_)
 ·obtain ⟨C,dx,fs,e⟩:=h.has_own mb
  rw [keep _ _ e (by intro _ z;cases z),e]
 ·obtain ⟨xs,e⟩:=h.has_ls mb
  rw [keep _ _ e (by intro _ z;cases z),e]
theorem YW.but (h:YW Z C p dc lk lp lo k1 k2 n1 n2 pile H) (D':Dr H' p dc) (e:But p H H'):YW Z C p dc lk lp lo k1 k2 n1 n2 pile H':=by
 have keep:∀ c o,H c=some o->(∀ kvs,o≠.dK kvs)->H' c=some o:=fun c o eo ne=>e c o eo (h.D.ne eo ne)
 have tk:TK H H':=fun c xs eo=>keep _ _ eo (by intro _ z;cases z)
 obtain ⟨ys,e1,y1,y2,y3⟩:=h.ks
 obtain ⟨dx,r,el⟩:=h.lok
 exact ⟨D',⟨ys,keep _ _ e1 (by intro _ z;cases z),y1,y2,fun y m=>(y3 y m).tk tk⟩,h.l1.keep keep,h.l2.keep keep,h.dj,⟨dx,r,keep _ _ el (by intro _ z;cases z)⟩,keep _ _ h.hq (by intro _ z;cases z),h.nk1,h.nk2,h.nq1,h.nq2,h.nd1,h.nd2,h.kq,h.dq⟩
theorem YW.mv1 (zo:Z.Ok) (ne:LkNe Z C) {k1':LA} {n1':Ln} (h:YW Z C p dc lk lp lo k1 k2 n1 n2 pile H) (ln':LnAt Z H' k1' n1') (m:Mv Z k1 H k1' H'):YW Z C p dc lk lp lo k1' k2 n1' n2 pile H':=by
 have out:∀ c o,H c=some o->c∉k1.ls->(∀ C dx fs',o≠.ins C dx fs')->H' c=some o:=fun c o e nc ni=>m.out c o e nc fun C dx fs' z=>absurd z (ni C dx fs')
 have tk:TK H H':=h.l1.tks zo m
 obtain ⟨ys,e1,y1,y2,y3⟩:=h.ks
 obtain ⟨dx,r,el⟩:=h.lok
 obtain ⟨ms,ba,br,bs,f1,f2,rest⟩:=h.D.ex
 have fr:∀ c o,H c=some o->c∉k1.ls->c∉k1'.ls:=fun c o e nc mc=>by
  rcases m.fr c mc with z|z
  ·exact nc z
  ·rw [e] at z;cases z
 exact ⟨⟨ms,ba,br,bs,out _ _ f1 (h.l1.not_ls f1 (by intro _ z;cases z)) (by intro _ _ _ z;cases z),out _ _ f2 h.nd1 (by intro _ _ _ z;cases z),rest⟩,⟨ys,out _ _ e1 h.nk1 (by intro _ _ _ z;cases z),y1,y2,fun y m=>(y3 y m).tk tk⟩,ln',h.l1.beside zo h.l2 h.dj m,h.dj.mv h.l2 m,⟨dx,r,m.out _ _ el (ne_ls h.l1 el) (by intro C' dx' fs' z;cases z;exact ⟨ne.c,ne.p,ne.l⟩)⟩,out _ _ h.hq h.nq1 (by intro _ _ _ z;cases z),fr _ _ e1 h.nk1,h.nk2,fr _ _ h.hq h.nq1,h.nq2,fr _ _ f2 h.nd1,h.nd2,h.kq,h.dq⟩
theorem YW.mv2 (zo:Z.Ok) (ne:LkNe Z C) {k2':LA} {n2':Ln} (h:YW Z C p dc lk lp lo k1 k2 n1 n2 pile H) (ln':LnAt Z H' k2' n2') (m:Mv Z k2 H k2' H'):YW Z C p dc lk lp lo k1 k2' n1 n2' pile H':=by
 have out:∀ c o,H c=some o->c∉k2.ls->(∀ C dx fs',o≠.ins C dx fs')->H' c=some o:=fun c o e nc ni=>m.out c o e nc fun C dx fs' z=>absurd z (ni C dx fs')
 have tk:TK H H':=h.l2.tks zo m
 obtain ⟨ys,e1,y1,y2,y3⟩:=h.ks
 obtain ⟨dx,r,el⟩:=h.lok
 obtain ⟨ms,ba,br,bs,f1,f2,rest⟩:=h.D.ex
 have fr:∀ c o,H c=some o->c∉k2.ls->c∉k2'.ls:=fun c o e nc mc=>by
  rcases m.fr c mc with z|z
  ·exact nc z
  ·rw [e] at z;cases z
 exact ⟨⟨ms,ba,br,bs,out _ _ f1 (h.l2.not_ls f1 (by intro _ z;cases z)) (by intro _ _ _ z;cases z),out _ _ f2 h.nd2 (by intro _ _ _ z;cases z),rest⟩,⟨ys,out _ _ e1 h.nk2 (by intro _ _ _ z;cases z),y1,y2,fun y m=>(y3 y m).tk tk⟩,h.l2.beside zo h.l1 h.dj.symm m,ln',(h.dj.symm.mv h.l1 m).symm,⟨dx,r,by rw [m.a];exact m.out _ _ el (ne_ls h.l2 el) (by intro C' dx' fs' z;cases z;exact ⟨ne.c,ne.p,ne.l⟩)⟩,out _ _ h.hq h.nq2 (by intro _ _ _ z;cases z),h.nk1,fr _ _ e1 h.nk2,h.nq1,fr _ _ h.hq h.nq2,h.nd1,fr _ _ f2 h.nd2,h.kq,h.dq⟩
theorem YW.pil {pile':List Int} (h:YW Z C p dc lk lp lo k1 k2 n1 n2 pile H):YW Z C p dc lk lp lo k1 k2 n1 n2 pile' (L2.upd H lp (.lst (pile'.map V.int))):=by
 have tk:TK H (L2.upd H lp (.lst (pile'.map V.int))):=TK.lst h.hq
 have kt:Kt Z H (L2.upd H lp (.lst (pile'.map V.int))):=Kt.lst h.hq
 obtain ⟨ys,e1,y1,y2,y3⟩:=h.ks
 obtain ⟨dx,r,el⟩:=h.lok
 have ln:∀ {k:LA} {n:Ln},LnAt Z H k n->lp∉k.ls->LnAt Z (L2.upd H lp (.lst (pile'.map V.int))) k n:=fun {k n} l nq=>l.stay kt (fun b mb=>by
  obtain ⟨C,dx,fs,e⟩:=l.has_own mb
  exact upd_ne (ne_of e h.hq (by intro z;cases z))) (fun b mb=>upd_ne fun z=>nq (by rw [← z];exact mb))
 exact ⟨h.D.put (h.D.ne h.hq (by intro _ z;cases z)) h.dq,⟨ys,by rw [upd_ne h.kq];exact e1,y1,y2,fun y m=>(y3 y m).tk tk⟩,ln h.l1 h.nq1,ln h.l2 h.nq2,h.dj,⟨dx,r,by rw [upd_ne (ne_of el h.hq (by intro z;cases z))];exact el⟩,upd_same,h.nk1,h.nk2,h.nq1,h.nq2,h.nd1,h.nd2,h.kq,h.dq⟩
theorem YW.looks (ne:LkNe Z C) {dx:Addr} {r:Int} (h:YW Z C p dc lk lp lo k1 k2 n1 n2 pile H) {fs0:List (Str×V)} {d0:Addr} (eo:H lo=some (.ins C d0 fs0)) (e':H' lo=some (.ins C dx (lkF k2.a r))) (kp:∀ b u,H b=some u->b≠lo->H' b=some u):YW Z C p dc lk lp lo k1 k2 n1 n2 pile H':=by
 have keep:∀ c o,H c=some o->(∀ dx fs,o≠.ins C dx fs)->H' c=some o:=fun c o ec ni=>kp c o ec fun z=>by
  rw [z,eo] at ec
  injection ec with ec
  exact ni d0 fs0 ec.symm
 have tk:TK H H':=fun c xs e=>keep _ _ e (by intro _ _ z;cases z)
 have kt:Kt Z H H':=⟨tk,fun c dx fs e=>keep _ _ e (by intro _ _ z;injection z with z;exact ne.k z.symm)⟩
 obtain ⟨ys,e1,y1,y2,y3⟩:=h.ks
 obtain ⟨ms,ba,br,bs,f1,f2,rest⟩:=h.D.ex
 have ln:∀ {k:LA} {n:Ln},LnAt Z H k n->LnAt Z H' k n:=fun {k n} l=>l.stay kt (fun b mb=>by
  obtain ⟨C',dx',fs',e,hc⟩:=l.own_cls mb
  rw [keep _ _ e (by
   intro _ _ z
   injection z with z
   rcases hc with hc|hc|hc
   ·exact ne.l (z.symm.trans hc)
   ·exact ne.p (z.symm.trans hc)
   ·exact ne.c (z.symm.trans hc)),e]) (fun b mb=>by
  obtain ⟨xs,e⟩:=l.has_ls mb
  rw [keep _ _ e (by intro _ _ z;cases z),e])
 exact ⟨⟨ms,ba,br,bs,keep _ _ f1 (by intro _ _ z;cases z),keep _ _ f2 (by intro _ _ z;cases z),rest⟩,⟨ys,keep _ _ e1 (by intro _ _ z;cases z),y1,y2,fun y m=>(y3 y m).tk tk⟩,ln h.l1,ln h.l2,h.dj,⟨dx,r,e'⟩,keep _ _ h.hq (by intro _ _ z;cases z),h.nk1,h.nk2,h.nq1,h.nq2,h.nd1,h.nd2,h.kq,h.dq⟩
theorem LnAt.cs_len {k:LA} {n:Ln} (ln:LnAt Z H k n):k.cs.length=(clms n).length:=by
 have:∀ {ps:List PA} {pg:List Pg},Pd (PgAt Z H) ps pg->(ps.flatMap (·.cs)).length=(pg.flatMap (·.cs)).length:=by
  intro ps pg h
  induction h with
  |nil=>rfl
  |cons r _ ih=>rw [List.flatMap_cons,List.flatMap_cons,List.length_append,List.length_append,ih,r.cs.len]
 exact this ln.pg
theorem Bs.bds {most room turn:Int} {over:Bool} {k:LA} {n:Ln} (b:Bs most room over n pile turn) (ln:LnAt Z H k n) (h1:most≤20) (h2:turn≤200):k.cs.length≤900/\n.pg.length≤900/\(stand n).length≤900/\(∀ m∈n.pg,m.cs.length≤900)/\pile.length≤200:=by
 have le:=b.le
 have tu:=b.tu
 have len:=b.len
 have el:eld n≤1:=eld_le n
 refine ⟨by rw [ln.cs_len];unfold clms;omega,by omega,?_,fun m mm=>?_,?_⟩
 ·have:=standP_len n.pg 0
  unfold stand
  omega
 ·have h2:m.cs.length≤(n.pg.flatMap (·.cs)).length:=by
   obtain ⟨B,C,eBC⟩:=List.append_of_mem mm
   rw [eBC]
   simp
   omega
  omega
 ·have h1:=(wait_sub n.pg).length_le
  have h3:pile.length=(wait n).length:=by rw [← b.pi,List.length_map]
  unfold wait at h3
  omega
end
theorem reps_intL {K:Frag} {H:Hp}:∀ us:List Int,Reps K H (us.map V.int) (us.map PyData.int)
 |[]=>.nil
 |u::r=>.cons (.int u) (reps_intL r)
theorem dep_intL:∀ us:List Int,pdDeps (us.map PyData.int)=0
 |[]=>rfl
 |u::r=>by simp only [List.map_cons,pdDeps,pdDep];rw [dep_intL r];rfl
def gVL:List V->List V->List V
 |[x],[a,b,c]=>[x,a,b,c]
 |_,_=>[]
def gL:List Value->List Value->List Value
 |[x],[a,b,c]=>[x,a,b,c]
 |_,_=>[]
theorem kb_lane {K:PySem.W.Frag} {fd:FuncData} (h:∀ (S:Setting) (x a b c:Value),PySem.W.peek K S (bindArgs fd ⟨[x],[("pages",a),("room",b),("over",c)]⟩)=some ([("self",x),("pages",a),("room",b),("over",c)]:List (Str×Value))):KBinds K fd ["self","pages","room","over"] ["pages","room","over"] gL gVL:=by
 refine ⟨fun s us ws X hl=>?_,fun {vs us zs ws} r rz=>?_⟩
 ·match us,ws,hl with
  |[x],[a,b,c],_=>exact PySem.W.kp_binds X fun S=>h S x a b c
  |[],_,z=>simp [gL] at z
  |[_],[],z=>simp [gL] at z
  |[_],[_],z=>simp [gL] at z
  |[_],[_,_],z=>simp [gL] at z
  |[_],_::_::_::_::_,z=>simp [gL] at z
  |_::_::_,_,z=>simp [gL] at z
 ·cases r with
  |nil=>exact .nil
  | cons r1 r=>
    cases r with
    |cons r2 r=>exact .nil
    | nil=>
      cases rz with
      |nil=>exact .nil
      | cons z1 z=>
        cases z with
        |nil=>exact .nil
        | cons z2 z=>
          cases z with
          |nil=>exact .nil
          | cons z3 z=>
            cases z with
            |cons z4 z=>exact .nil
            |nil=>exact .cons r1 (.cons z1 (.cons z2 (.cons z3 .nil)))
def gVM:List V->List V->List V
 |[x],[a]=>[x,a]
 |_,_=>[]
def gM':List Value->List Value->List Value
 |[x],[a]=>[x,a]
 |_,_=>[]
theorem kb_more {K:PySem.W.Frag} {fd:FuncData} (h:∀ (S:Setting) (x a:Value),PySem.W.peek K S (bindArgs fd ⟨[x],[("most",a)]⟩)=some ([("self",x),("most",a)]:List (Str×Value))):KBinds K fd ["self","most"] ["most"] gM' gVM:=by
 refine ⟨fun s us ws X hl=>?_,fun {vs us zs ws} r rz=>?_⟩
 ·match us,ws,hl with
  |[x],[a],_=>exact PySem.W.kp_binds X fun S=>h S x a
  |[],_,z=>simp [gM'] at z
  |[_],[],z=>simp [gM'] at z
  |[_],_::_::_,z=>simp [gM'] at z
  |_::_::_,_,z=>simp [gM'] at z
 ·cases r with
  |nil=>exact .nil
  | cons r1 r=>
    cases r with
    |cons r2 r=>exact .nil
    | nil=>
      cases rz with
      |nil=>exact .nil
      | cons z1 z=>
        cases z with
        |cons z2 z=>exact .nil
        |nil=>exact .cons r1 (.cons z1 .nil)
section
variable {P:Program} {w:World} {K:PySem.W.Frag} {mg:Str->Option Value} {base:Heap} {Z:LC} {C:Addr}
def spLaw (K:PySem.W.Frag):Sp:=fun vs H Q _=>∃ (a:Addr) (ns:List Int),vs=[.ref a]/\SqL K H a (ns.map V.int)/\ns.length≤63/\∀ H',Q (.bl true) H'
abbrev NLaw:List Str:=["_law_script","_law_d","_law_kinds","_law_many","_law_wide","_law_goes","_law_alone","_law_read","_law_looker","_law_pile","_law_turn","_law_step","_law_way","_law_sort","_law_tickets","_law_ticket","_law_lane"]
theorem scLaw:FnScope NLaw ["_law_script"] (defScope (top 48)):=⟨rfl,rfl,rfl,by decide +kernel,rfl,by decide +kernel,by decide +kernel⟩
theorem ok_law {f fB fP fO fKs fNu fKI fLI fLk fMo fCm fTk fGv fTh fCo:Addr} {fd fdB fdP fdO fdKs fdNu fdKI fdLI fdLk fdMo fdCm fdTk fdGv fdTh fdCo:FuncData} (F:Fun K "law" "law" (top 48) f fd) (T:Txt K mg) (L:LZ K mg Z) (LK:LkZ K mg C) (LN:LkNe Z C)
 (DB:Def K mg "_law_begin" (top 39) ["_law_script"] fB fdB) (DP:Def K mg "_law_pick" (top 40) ["_law_d","_law_many"] fP fdP) (DO:Def K mg "_law_of" (top 41) ["_law_d","_law_things"] fO fdO)
 (DKs:Def K mg "_law_kinds_for" (top 46) ["_law_d"] fKs fdKs) (GKs:FnOk P w K mg base CX0 6 fKs fdKs ["_law_d"] (spKs K))
 (DNu:Def K mg "_law_num" (top 47) ["_law_found"] fNu fdNu)
 (MkK:Mk K Z.k fKI) (GKI:FnOk P w K mg base CX0 4 fKI fdKI ["self","name","fields"] (spInit Z.k)) (bKI:Binds K fdKI ["self","name","fields"] [])
 (MkL:Mk K Z.l fLI) (GLI:FnOk P w K mg base CX0 3 fLI fdLI ["self","pages","room","over"] (spLI Z)) (kbL:KBinds K fdLI ["self","pages","room","over"] ["pages","room","over"] gL gVL)
 (MkLk:Mk K C fLk) (GLk:FnOk P w K mg base CX0 1 fLk fdLk ["self","lane"] (spKI C)) (bLk:Binds K fdLk ["self","lane"] [])
 (MMo:Meth K C "more" fMo) (GMo:FnOk P w K mg base CX0 3 fMo fdMo ["self","most"] (spMo Z C)) (kbM:KBinds K fdMo ["self","most"] ["most"] gM' gVM)
 (MCm:MD K Z.l "claim" "Lane.claim" (lM 1) ["self","kind","time"] fCm fdCm) (GCm:FnOk P w K mg base CX0 8 fCm fdCm ["self","kind","time"] (spCm Z))
 (MTk:MD K Z.l "take" "Lane.take" (lM 14) ["self"] fTk fdTk) (GTk:FnOk P w K mg base CX0 4 fTk fdTk ["self"] (spTk Z))
 (MGv:MD K Z.l "give" "Lane.give" (lM 10) ["self","ticket"] fGv fdGv) (GGv:FnOk P w K mg base CX0 5 fGv fdGv ["self","ticket"] (spGv Z))
 (MTh:MD K Z.l "throw" "Lane.throw" (lM 11) ["self","ticket"] fTh fdTh) (GTh:FnOk P w K mg base CX0 5 fTh fdTh ["self","ticket"] (spTh Z))
 (MCo:MD K Z.l "counts" "Lane.counts" (lM 19) ["self"] fCo fdCo) (GCo:FnOk P w K mg base CX0 1 fCo fdCo ["self"] (spCo Z)):FnOk P w K mg base CX0 12 f fd ["_law_script"] (spLaw K):=by
 have GB:FnOk P w K mg base CX0 1 fB fdB ["_law_script"] (spBegin K):=ok_begin DB.F T
 have GP:FnOk P w K mg base CX0 1 fP fdP ["_law_d","_law_many"] spPick:=ok_pick DP.F T
 have GO:FnOk P w K mg base CX0 2 fO fdO ["_law_d","_law_things"] (spOf K):=ok_of DO.F T DP
 have GNu:FnOk P w K mg base CX0 1 fNu fdNu ["_law_found"] spNum:=ok_num DNu.F T
 refine F.ok scLaw (fun vs H Q E h=>?_) (fun cdv A outer s H vs Q E hr h=>?_)
 ·obtain ⟨a,ns,rfl,_⟩:=h
  rfl
 ·obtain ⟨sa,ns,rfl,hS,hlen,k0⟩:=h
  have hr1:Room 1 _:=hr.mono (by decide)
  have hr2:Room 2 _:=hr.mono (by decide)
  have hr3:Room 3 _:=hr.mono (by decide)
  have hr4:Room 4 _:=hr.mono (by decide)
  have hr5:Room 5 _:=hr.mono (by decide)
  have hr6:Room 6 _:=hr.mono (by decide)
  have hr8:Room 8 _:=hr.mono (by decide)
  refine ⟨_,(pss_cons (ps_set (i:=1) scLaw.nd rfl (Or.inl rfl) (pe_call (E:=E0) GB hr1 rfl DB.mg DB.F.kp DB.b .nil pass0 (pa_cons (pv 0) pa_nil)))
 (pss_cons (ps_set (i:=2) scLaw.nd rfl (Or.inl rfl) (pe_call (E:=E0) GKs hr6 rfl DKs.mg DKs.F.kp DKs.b .nil pass0 (pa_cons (pv 1) pa_nil)))
 (pss_cons (ps_par (i:=3) (j:=4) rfl scLaw.nd rfl rfl (by decide) rfl rfl (pa_cons (pe_op op_add pe_int (pe_call (E:=E0) GP hr1 rfl DP.mg DP.F.kp DP.b .nil pass0 (pa_cons (pv 1) (pa_cons pe_int pa_nil)))) (pa_cons (pe_op op_add pe_int (pe_call (E:=E0) GP hr1 rfl DP.mg DP.F.kp DP.b .nil pass0 (pa_cons (pv 1) (pa_cons pe_int pa_nil)))) pa_nil)) rfl)
 (pss_cons (ps_set (i:=5) scLaw.nd rfl (Or.inl rfl) (pe_cmpR op_gt (pe_call (E:=E0) GP hr1 rfl DP.mg DP.F.kp DP.b .nil pass0 (pa_cons (pv 1) (pa_cons pe_int pa_nil))) pe_int (nomark _)))
 (pss_cons (ps_par (i:=6) (j:=7) rfl scLaw.nd rfl rfl (by decide) rfl rfl (pa_cons (pe_makeK0 (E:=E0) MkL GLI hr4 rfl L.lmg kbL pass0 (pk_cons (pv 3) (pk_cons (pv 4) (pk_cons (pv 5) pk_nil)))) (pa_cons (pe_makeK0 (E:=E0) MkL GLI hr4 rfl L.lmg kbL pass0 (pk_cons (pv 3) (pk_cons (pv 4) (pk_cons (pv 5) pk_nil)))) pa_nil)) rfl)
 (pss_cons (ps_set (i:=8) scLaw.nd rfl (Or.inl rfl) (pe_make (E:=E0) MkLk GLk hr2 rfl LK.mg bLk .nil pass0 (pa_cons (pv 7) pa_nil)))
 (pss_cons (ps_set (i:=9) scLaw.nd rfl (Or.inl rfl) (pe_lst pa_nil))
 (pss_cons (ps_for PassesOwn.never rfl (pi_range1 rfl T.range (pa_cons (pe_op op_add pe_int (pe_call (E:=E0) GP hr1 rfl DP.mg DP.F.kp DP.b .nil pass0 (pa_cons (pv 1) (pa_cons pe_int pa_nil)))) pa_nil)) (pg_name (i:=10) scLaw.nd rfl (Or.inr rfl)) (pss_cons (ps_for PassesOwn.never rfl (pi_range1 rfl T.range (pa_cons (pe_call (E:=E0) GP hr1 rfl DP.mg DP.F.kp DP.b .nil pass0 (pa_cons (pv 1) (pa_cons pe_int pa_nil))) pa_nil)) (pg_name (i:=11) scLaw.nd rfl (Or.inl rfl)) (pss_one (ps_expr (pe_meth0 (E:=E0) (pv 7) L.lc MTk.M GTk hr4 MTk.b .nil pass0))))
 (pss_cons (ps_expr (pe_methK0 (E:=E0) (pv 8) LK.cl MMo GMo hr3 kbM pass0 (pk_cons (pe_call (E:=E0) GP hr1 rfl DP.mg DP.F.kp DP.b .nil pass0 (pa_cons (pv 1) (pa_cons pe_int pa_nil))) pk_nil)))
 (pss_cons (ps_set (i:=12) scLaw.nd rfl (Or.inl rfl) (pe_call (E:=E0) GP hr1 rfl DP.mg DP.F.kp DP.b .nil pass0 (pa_cons (pv 1) (pa_cons pe_int pa_nil))))
 (pss_one (ps_if (pt_cmpR op_lt (pv 12) pe_int (nomark _)) (pss_cons (ps_set (i:=13) scLaw.nd rfl (Or.inr rfl) (pe_call (E:=E0) GO hr2 rfl DO.mg DO.F.kp DO.b .nil pass0 (pa_cons (pv 1) (pa_cons (pv 2) pa_nil))))
 (pss_cons (ps_setComp (g:=gName 0) (i:=14) (own:=["_law_lane"]) (js:=[13,10]) (N':=["_law_lane","_law_sort","_law_turn"]) (CompScope.of (osc:=defScope (top 48)) (N:=NLaw) rfl rfl ⟨rfl,by decide +kernel,by decide +kernel,by decide +kernel,rfl,by decide +kernel⟩) rfl scLaw.nd rfl rfl (pi_tup (pe_tup (pa_cons (pv 6) (pa_cons (pv 7) pa_nil)))) (fun _ _ _ _ _=>(pg_name (i:=0) (show List.Nodup (["_law_lane","_law_sort","_law_turn"]:List Str) by decide +kernel) rfl (Or.inl rfl) (Or.inr rfl))) (fun _ _ _ _ _=>pifs_nil) (fun _ _ _ _ _=>(pe_meth (E:=E0) (pv 0) L.lc MCm.M GCm hr8 MCm.b .nil pass0 (pa_cons (pe_make (E:=E0) MkK GKI hr5 rfl L.kc.mg bKI .nil pass0 (pa_cons (pe_ix (r:=rIxT K) ix_tup (pv 1) pe_int (fun _ _=>rfl)) (pa_cons (pe_ix (r:=rIxT K) ix_tup (pv 1) pe_int (fun _ _=>rfl)) pa_nil))) (pa_cons (pv 2) pa_nil)))))
 (pss_cons (ps_if (PW.pt (pw_and (pt_cmpR op_notN (pe_ix ix_list (pv 14) pe_int (fun _ _=>rfl)) pe_non (nomark _)) (pw_and1 (pt_cmpR op_ne (pe_ix ix_list (pv 14) pe_int (fun _ _=>rfl)) (pe_ix ix_list (pv 14) pe_int (fun _ _=>rfl)) (nomark _))))) (pss_one ps_never) pss_nil)
 (pss_cons (ps_if (pt_cmpR op_isN (pe_ix ix_list (pv 14) pe_int (fun _ _=>rfl)) pe_non (nomark _)) (pss_one (ps_ret (pe_or (pe_cmpR op_isN (pe_ix ix_list (pv 14) pe_int (fun _ _=>rfl)) pe_non (nomark _)) (pe_one (pe_call (E:=E0) GNu hr1 rfl DNu.mg DNu.F.kp DNu.b .nil pass0 (pa_cons (pe_ix ix_list (pv 14) pe_int (fun _ _=>rfl)) pa_nil)))))) pss_nil)
 (pss_one (ps_expr (pe_bm PySem.F.plainAttrs_list PySem.F.slot_list_append PySem.F.type_list_append mt_append (pv 9) (pa_cons (pe_ix ix_list (pv 14) pe_int (fun _ _=>rfl)) pa_nil)))))))) (pss_one (ps_if (pt_cmpR (op_neL hr.units) (pv 9) (pe_lst pa_nil) (nomark _)) (pss_cons (ps_set (i:=15) scLaw.nd rfl (Or.inl rfl) (pe_bm0 PySem.F.plainAttrs_list PySem.F.slot_list_pop PySem.F.type_list_pop mt_pop (pv 9)))
 (pss_one (ps_for PassesOwn.never rfl (pi_tup (pe_tup (pa_cons (pv 6) (pa_cons (pv 7) pa_nil)))) (pg_name (i:=16) scLaw.nd rfl (Or.inl rfl)) (pss_one (ps_if (pt_cmpR op_eq (pv 12) pe_int (nomark _)) (pss_one (ps_expr (pe_meth (E:=E0) (pv 16) L.lc MGv.M GGv hr5 MGv.b .nil pass0 (pa_cons (pv 15) pa_nil)))) (pss_one (ps_expr (pe_meth (E:=E0) (pv 16) L.lc MTh.M GTh hr5 MTh.b .nil pass0 (pa_cons (pv 15) pa_nil))))))))) pss_nil))))))))
 (pss_one (ps_ret (pe_and (pe_cmpR op_eq (pe_ix ix_tup (pe_meth0 (E:=E0) (pv 6) L.lc MCo.M GCo hr1 MCo.b .nil pass0) pe_int (fun _ _=>rfl)) (pe_ix ix_tup (pe_meth0 (E:=E0) (pv 7) L.lc MCo.M GCo hr1 MCo.b .nil pass0) pe_int (fun _ _=>rfl)) (nomark _)) (pe_one (pe_cmpR op_le (pe_ix ix_tup (pe_meth0 (E:=E0) (pv 7) L.lc MCo.M GCo hr1 MCo.b .nil pass0) pe_int (fun _ _=>rfl)) (pe_ix ix_tup (pe_meth0 (E:=E0) (pv 6) L.lc MCo.M GCo hr1 MCo.b .nil pass0) pe_int (fun _ _=>rfl)) (nomark _)))))))))))))),?_⟩
  have big:2000≤sizeLine:=by decide
  refine ⟨_,rfl,sa,ns,rfl,hS,hlen,fun p dc H0 D0 s0 _=>?_⟩
  refine ⟨_,rfl,p,dc,rfl,D0,fun lk ys H1 hk yne ky D1 b1 yl=>?_⟩
  try dsimp only [List.set]
  refine ⟨_,rfl,p,dc,_,rfl,D1,by decide,by decide,fun r2 H2 r20 r21 D2 b2=>⟨_,_,rfl,rfl,?_⟩⟩
  refine ⟨_,rfl,p,dc,_,rfl,D2,by decide,by decide,fun r3 H3 r30 r31 D3 b3=>⟨_,_,rfl,rfl,_,_,rfl,?_⟩⟩
  try dsimp only [List.set]
  refine ⟨_,rfl,p,dc,_,rfl,D3,by decide,by decide,fun r4 H4 r40 r41 D4 b4=>⟨_,_,rfl,rfl,?_⟩⟩
  have nkp:lk≠p:=D1.ne hk (by intro _ z;cases z)
  have tk4:TK H1 H4:=((TK.but D1 b2).trans (TK.but D2 b3)).trans (TK.but D3 b4)
  have hk4:H4 lk=some (.lst ys):=b4 _ _ (b3 _ _ (b2 _ _ hk nkp) nkp) nkp
  obtain ⟨over,hov⟩:∃ b:Bool,decide (0<r4)=b:=⟨_,rfl⟩
  try dsimp only [List.set]
  rw [hov]
  clear hov
  try dsimp only [gName,List.set]
  refine ⟨_,rfl,_,rfl,_,rfl,fun x dx hx hdx ndx=>?_⟩
  refine ⟨x,dx,2+r2,5+r3,over,rfl,upd_same,by omega,by omega,by omega,by omega,fun k1 H5 ka1 kc1 ln1 kp1 kf1=>⟨rfl,?_⟩⟩
  have s5:Same H4 H5:=new_same hx hdx kp1
  refine ⟨_,rfl,_,rfl,_,rfl,fun y dy hy hdy ndy=>?_⟩
  refine ⟨y,dy,2+r2,5+r3,over,rfl,upd_same,by omega,by omega,by omega,by omega,fun k2 H6 ka2 kc2 ln2 kp2 kf2=>⟨rfl,_,_,rfl,?_⟩⟩
  have s6:Same H5 H6:=new_same hy hdy kp2
  have fr2:∀ c zs,H5 c=some (.lst zs)->c∉k2.ls:=fun c zs ez m=>by
   have:=kf2 c m
   have n1:c≠y:=ne_of_none ez hy
   have n2:c≠dy:=ne_of_none ez hdy
   rw [upd_ne n1,upd_ne n2,ez] at this
   cases this
  have fr1:∀ c zs,H4 c=some (.lst zs)->c∉k1.ls:=fun c zs ez m=>by
   have:=kf1 c m
   have n1:c≠x:=ne_of_none ez hx
   have n2:c≠dx:=ne_of_none ez hdx
   rw [upd_ne n1,upd_ne n2,ez] at this
   cases this
  have dj:Dj k1 k2:=by
   have dl:∀ b∈k1.ls,b∉k2.ls:=fun b mb=>by
    obtain ⟨zs,ez⟩:=ln1.has_ls mb
    exact fr2 b zs ez
   refine ⟨fun b m1 m2=>?_,dl⟩
   have ln1':=ln1.same s6
   rcases List.mem_cons.mp m2 with rfl|m2
   ·obtain ⟨_,_,_,e⟩:=ln1.has_own m1
    rw [ka2,hy] at e
    cases e
   ·rw [show k2.ps.map (·.p)++k2.cs=k2.ps.map (·.p) by rw [kc2,List.append_nil]] at m2
    obtain ⟨s2,ms2,rfl⟩:=List.mem_map.mp m2
    obtain ⟨i2,hi2⟩:=List.mem_iff_getElem?.mp ms2
    obtain ⟨y2,_,q2⟩:=ln2.pg.at hi2
    obtain ⟨d2,e2⟩:=q2.ob
    rcases List.mem_cons.mp m1 with z|m1
    ·obtain ⟨d1,e1⟩:=ln1'.ob
     rw [← z,e2] at e1
     injection e1 with e1
     injection e1 with e1
     exact L.ok.pl e1
    ·rw [show k1.ps.map (·.p)++k1.cs=k1.ps.map (·.p) by rw [kc1,List.append_nil]] at m1
     obtain ⟨s1,ms1,z⟩:=List.mem_map.mp m1
     obtain ⟨i1,hi1⟩:=List.mem_iff_getElem?.mp ms1
     obtain ⟨y1,_,q1⟩:=ln1'.pg.at hi1
     obtain ⟨d1,e1⟩:=q1.ob
     rw [z,e2] at e1
     injection e1 with e1
     injection e1 with _ _ e1
     have:s2.l=s1.l:=by injection e1 with e1;injection e1 with _ e1;injection e1
     refine dl s1.l (List.mem_cons_of_mem _ (List.mem_map.mpr ⟨s1,ms1,rfl⟩)) ?_
     rw [← this]
     exact List.mem_cons_of_mem _ (List.mem_map.mpr ⟨s2,ms2,rfl⟩)
  try dsimp only [List.set]
  refine ⟨_,rfl,fun o d7 ho hd7 nd7=>?_⟩
  refine ⟨o,d7,y,rfl,upd_same,fun H7 e7 kp7=>⟨rfl,?_⟩⟩
  have s7:Same H6 H7:=new_same ho hd7 kp7
  try dsimp only [List.set]
  refine ⟨(show 0≤sizeLine by decide),fun lp hlp=>?_⟩
  have W0:YW Z C p dc lk lp o k1 k2 (newLn (2+r2) (5+r3) over) (newLn (2+r2) (5+r3) over) [] (L2.upd H7 lp (.lst [])):=by
   have s8:=Same.new (o:=.lst []) hlp
   have S57:=s6.trans s7
   obtain ⟨zs,ez⟩:=D4.cell
   have nls:∀ {k:LA} {n:Ln},LnAt Z H7 k n->lp∉k.ls:=fun l m=>by
    obtain ⟨zs,ez⟩:=l.has_ls m
    rw [hlp] at ez;cases ez
   have l17:=(ln1.same s6).same s7
   have l27:=ln2.same s7
   refine ⟨((D4.mono s5).mono S57).mono s8,⟨ys,s8 _ _ (S57 _ _ (s5 _ _ hk4)),yne,yl,fun q m=>(ky q m).tk (tk4.trans (same_tk (s5.trans (S57.trans s8))))⟩,l17.same s8,l27.same s8,dj,⟨d7,0,by rw [ka2];exact s8 _ _ e7⟩,upd_same,fr1 _ _ hk4,fr2 _ _ (s5 _ _ hk4),nls l17,nls l27,fr1 _ _ ez,fr2 _ _ (s5 _ _ ez),ne_of_none (S57 _ _ (s5 _ _ hk4)) hlp,(ne_of_none (S57 _ _ (s5 _ _ ez)) hlp).symm⟩
  generalize L2.upd H7 lp (.lst [])=H8 at W0 ⊢
  have B0:Bs (2+r2) (5+r3) over (newLn (2+r2) (5+r3) over) [] 0:=by
   refine ⟨by show (([]:List Cl).map _).Nodup;simp,fun c m=>?_,by show ((0:Nat):Int)≤0;simp,rfl,by simp [newLn],rfl,rfl,rfl,?_,(fun t ht=>by cases ht),Int.le_refl _⟩
   ·have m:c∈([]:List Cl):=m
    cases m
   ·show ((1:Nat):Int)≤2+r2+((0:Nat):Int)
    omega
  have S0:Sim (newLn (2+r2) (5+r3) over) (newLn (2+r2) (5+r3) over):=⟨rfl,rfl,rfl,Int.le_refl _,.inl ⟨rfl,rfl⟩⟩
  try dsimp only [List.set]
  refine ⟨_,rfl,p,dc,_,rfl,W0.D,by decide,by decide,fun r7 H9 r70 r71 D9 b9=>⟨_,_,rfl,rfl,?_⟩⟩
  have W9:=W0.but D9 b9
  obtain ⟨N,hN⟩:∃ N:Nat,10+r7=(N:Int):=⟨(10+r7).toNat,by omega⟩
  refine ⟨(N:Int),(by show [V.int (10+r7)]=[V.int (N:Int)];rw [hN]),by omega,by omega,for_range (n:=N) (fun i σ' H'=>∃ k1 k2 n1 n2 pile u10 u11 u12 u13 u14 u15 u16,σ'=[some (.ref sa),some (.ref p),some (.ref lk),some (.int (2+r2)),some (.int (5+r3)),some (.bl over),some (.ref x),some (.ref y),some (.ref o),some (.ref lp),u10,u11,u12,u13,u14,u15,u16]/\k1.a=x/\k2.a=y/\YW Z C p dc lk lp o k1 k2 n1 n2 pile H'/\Bs (2+r2) (5+r3) over n1 pile (i:Int)/\Bs (2+r2) (5+r3) over n2 pile (i:Int)/\Sim n1 n2) ?_ ?_ ?_⟩
  ·exact ⟨k1,k2,_,_,[],none,none,none,none,none,none,none,rfl,ka1,ka2,W9,B0,B0,S0⟩
  ·clear W9 W0 B0 S0 dj fr1 fr2 ln1 ln2 kp1 kp2 kf1 kf2 ka1 ka2 kc1 kc2
   rintro i σ H10 hi ⟨k1,k2,n1,n2,pile,u10,u11,u12,u13,u14,u15,u16,rfl,ka1,ka2,W,B1,B2,S⟩
   dsimp only [gName,List.set]
   refine ⟨_,rfl,p,dc,_,rfl,W.D,by decide,by decide,fun r8 H11 r80 r81 D11 b11=>?_⟩
   have W11:=W.but D11 b11
   clear W
   obtain ⟨M,hM⟩:∃ M:Nat,r8=(M:Int):=⟨r8.toNat,by omega⟩
   subst hM
   refine ⟨(M:Int),rfl,by omega,by omega,for_range (n:=M) (fun j σ' H'=>∃ k2 n2 u11,σ'=[some (.ref sa),some (.ref p),some (.ref lk),some (.int (2+r2)),some (.int (5+r3)),some (.bl over),some (.ref x),some (.ref y),some (.ref o),some (.ref lp),some (.int (0+(i:Int))),u11,u12,u13,u14,u15,u16]/\k2.a=y/\YW Z C p dc lk lp o k1 k2 n1 n2 pile H'/\Bs (2+r2) (5+r3) over n2 pile (i:Int)/\Sim n1 n2) ?_ ?_ ?_⟩
   ·exact ⟨k2,n2,_,rfl,ka2,W11,B2,S⟩
   ·clear W11 B2 S ka2
    rintro j σ H12 hj ⟨k2,n2,u11,rfl,ka2,W,B2,S⟩
    obtain ⟨cs2,pg2,sd2,_,_⟩:=B2.bds W.l2 (by omega) (by omega)
    obtain ⟨dx2,e2⟩:=W.l2.ob
    rw [ka2] at e2
    dsimp only [gName,List.set]
    refine ⟨_,rfl,y,dx2,_,rfl,e2,rfl,k2,n2,(by rw [ka2];rfl),W.l2,cs2,pg2,sd2,fun v k2' H13 ln' mv _=>?_⟩
    exact ⟨k2',_,_,rfl,mv.a.trans ka2,W.mv2 L.ok LN ln' mv,B2.take.1,S.take B2⟩
   ·clear W11 B2 S ka2
    rintro σ H12 ⟨k2,n2,u11,rfl,ka2,W,B2,S⟩
    obtain ⟨cs1,pg1,sd1,pc1,pl1⟩:=B1.bds W.l1 (by omega) (by omega)
    obtain ⟨cs2,pg2,sd2,pc2,_⟩:=B2.bds W.l2 (by omega) (by omega)
    obtain ⟨do1,ro1,eo1⟩:=W.lok
    refine ⟨_,rfl,o,do1,_,rfl,eo1,rfl,_,rfl,p,dc,_,rfl,W.D,by decide,by decide,fun r9 H13 r90 r91 D13 b13=>?_⟩
    have W13:=W.but D13 b13
    have eo13:H13 o=some (.ins C do1 (lkF k2.a ro1)):=b13 _ _ eo1 (W.D.ne eo1 (by intro _ z;cases z))
    clear W
    refine ⟨o,do1,k2,n2,ro1,r9,rfl,eo13,r90,W13.l2,cs2,pg2,sd2,fun v r' H14 e14 kp14=>?_⟩
    have W14:=W13.looks LN eo13 e14 kp14
    clear W13
    refine ⟨_,rfl,p,dc,_,rfl,W14.D,by decide,by decide,fun wy H15 w0 w1 D15 b15=>?_⟩
    have W15:=W14.but D15 b15
    clear W14
    try dsimp only [List.set]
    refine ⟨_,rfl,_,_,rfl,rfl,_,rfl,?_⟩
    by_cases h3:wy<3
    ·refine ifT (by simpa using h3) ?_
     obtain ⟨ys9,hk9,y1,y2,y3⟩:=W15.ks
     refine ⟨_,rfl,_,rfl,p,dc,lk,ys9,rfl,W15.D,SqL.of hk9,y1,by omega,fun yy H16 my D16 b16=>?_⟩
     have W16:=W15.but D16 b16
     obtain ⟨b,a,nm,xs,fs,rfl,hb,ha,pf,ko⟩:=(y3 yy my).tk (TK.but W15.D b16)
     clear W15 y3 hk9
     try dsimp only [List.set]
     refine ⟨_,rfl,_,rfl,(show 2≤sizeLine by decide),fun tt htt=>?_⟩
     have s17:=Same.new (o:=.tup [.ref x,.ref y]) htt
     have W17:=W16.same s17
     have h17:(L2.upd H16 tt (.tup [.ref x,.ref y])) tt=some (.tup [.ref x,.ref y]):=upd_same
     have hb17:=s17 _ _ hb
     have ha17:=s17 _ _ ha
     have pf17:=flds_tk pf (same_tk s17)
     generalize L2.upd H16 tt (.tup [.ref x,.ref y])=H17 at W17 h17 hb17 ha17 pf17 ⊢
     clear W16 hb ha pf
     refine ⟨tt,rfl,⟨_,SqT.of h17⟩,?_⟩
     have cl:∀ (k:LA) (n:Ln) (q:Addr) (H1:Hp) (Q':VK),k.a=q->LnAt Z H1 k n->TK H17 H1->Bs (2+r2) (5+r3) over n pile (i:Int)->(∀ k' H2,LnAt Z H2 k' (claimM nm fs (i:Int) n).2->(∃ H3,Same H1 H3/\LnAt Z H3 k n/\Mv Z k H3 k' H2)->Q' (inO (claimM nm fs (i:Int) n).1) H2)->
      (tMeth Z.l "claim" (spCm Z) [] E0 (tVar 0) (tCons (tMake Z.k (spInit Z.k) [] E0 (tCons (tOp (rIxT K) (tVar 1) (tC (.int 0))) (tCons (tOp (rIxT K) (tVar 1) (tC (.int 1))) tNil))) (tCons (tVar 2) tNil))) [some (.ref q),some (.ref b),some (.int (0+(i:Int)))] H1 Q':=by
      intro k n q H1 Q' kq ln tk1 B hQ
      obtain ⟨dq,eq⟩:=ln.ob
      rw [kq] at eq
      have hb1:=tk1 _ _ hb17
      have ha1:=tk1 _ _ ha17
      have pf1:=flds_tk pf17 tk1
      obtain ⟨csq,pgq,sdq,pcq,_⟩:=B.bds ln (by omega) (by omega)
      refine ⟨_,rfl,q,dq,_,rfl,eq,rfl,_,rfl,b,_,_,_,rfl,rfl,SqT.of hb1,atI_nat (j:=0) rfl,_,rfl,b,_,_,_,rfl,rfl,SqT.of hb1,atI_nat (j:=1) rfl,fun x1 dx1 hx1 hdx1 ndx1=>?_⟩
      have s9:Same H1 (L2.upd (L2.upd H1 dx1 (.own x1)) x1 (.ins Z.k dx1 [])):=(Same.new hdx1).trans (Same.new (by rw [upd_ne ndx1.symm];exact hx1))
      refine ⟨x1,dx1,a,nm,xs,fs,rfl,upd_same,ko.nm,s9 _ _ ha1,flds_tk pf1 (same_tk s9),ko.le,ko.ok,ko.nd,fun H11 kat k11=>⟨rfl,?_⟩⟩
      have s11:Same H1 H11:=new_same hx1 hdx1 k11
      refine ⟨_,rfl,k,n,x1,a,nm,fs,(i:Int),(by rw [kq];show [V.ref q,V.ref x1,V.int (0+(i:Int))]=_;rw [Int.zero_add]),ln.same s11,kat,ko,B.ne,by rw [B.mo];omega,pgq,pcq,fun t ht=>Int.le_of_lt (B.la t ht),fun k' H2 ln' mv=>hQ k' H2 ln' ⟨H11,s11,ln.same s11,mv⟩⟩
     refine comp_tup (K:=K) (a:=tt) (xs:=[.ref x,.ref y]) (fun j vs σ' H'=>∃ u k1' k2' n1' n2',σ'=[u,some (.ref b),some (.int (0+(i:Int)))]/\TK H17 H'/\YW Z C p dc lk lp o k1' k2' n1' n2' pile H'/\k1'.a=x/\k2'.a=y/\((j=0/\vs=[]/\n1'=n1/\n2'=n2)∨(j=1/\vs=[inO (claimM nm fs (i:Int) n1).1]/\n1'=(claimM nm fs (i:Int) n1).2/\n2'=n2)∨(j=2/\vs=[inO (claimM nm fs (i:Int) n1).1,inO (claimM nm fs (i:Int) n2).1]/\n1'=(claimM nm fs (i:Int) n1).2/\n2'=(claimM nm fs (i:Int) n2).2))) (show 2≤sizeLine by decide) ⟨none,k1,k2,n1,n2,rfl,fun _ _ e=>e,W17,ka1,ka2,.inl ⟨rfl,rfl,rfl,rfl⟩⟩ (fun j vs σ' H' _ z=>by
      obtain ⟨_,_,_,_,_,_,tk,_⟩:=z
      exact SqT.of (tk _ _ h17)) ?_ ?_
     ·rintro j v vs σ' H18 hj hl ⟨u,k1',k2',n1',n2',rfl,tk18,W18,ka1',ka2',cs⟩ N2 hN2
      dsimp only [gName,List.set]
      rcases cs with ⟨rfl,rfl,rfl,rfl⟩|⟨rfl,rfl,rfl,rfl⟩|⟨rfl,_⟩
      ·have:v=.ref x:=by simpa using hj.symm
       subst this
       refine cl k1' n1' x H18 _ ka1' W18.l1 tk18 B1 fun k' H19 ln' ⟨H3,s3,ln3,mv⟩=>hN2 _ _ _ rfl ?_
       have W3:=W18.same s3
       exact ⟨_,k',k2',_,n2',rfl,(tk18.trans (same_tk s3)).trans (ln3.tks L.ok mv),W3.mv1 L.ok LN ln' mv,mv.a.trans ka1',ka2',.inr (.inl ⟨rfl,rfl,rfl,rfl⟩)⟩
      ·have:v=.ref y:=by simpa using hj.symm
       subst this
       refine cl k2' n2' y H18 _ ka2' W18.l2 tk18 B2 fun k' H19 ln' ⟨H3,s3,ln3,mv⟩=>hN2 _ _ _ rfl ?_
       have W3:=W18.same s3
       exact ⟨_,k1',k',_,_,rfl,(tk18.trans (same_tk s3)).trans (ln3.tks L.ok mv),W3.mv2 L.ok LN ln' mv,ka1',mv.a.trans ka2',.inr (.inr ⟨rfl,rfl,rfl,rfl⟩)⟩
      ·simp at hj
     ·rintro vs σ' H18 hl ⟨u,k1',k2',n1',n2',rfl,tk18,W18,ka1',ka2',cs⟩
      rcases cs with ⟨z,_⟩|⟨z,_⟩|⟨_,rfl,rfl,rfl⟩
      ·simp at z
      ·simp at z
      ·refine ⟨(show 2≤sizeLine by decide),fun lt hlt=>?_⟩
       have W19:=W18.same (Same.new (o:=.lst [inO (claimM nm fs (i:Int) n1).1,inO (claimM nm fs (i:Int) n2).1]) hlt)
       have h19:(L2.upd H18 lt (.lst [inO (claimM nm fs (i:Int) n1).1,inO (claimM nm fs (i:Int) n2).1])) lt=some (.lst [inO (claimM nm fs (i:Int) n1).1,inO (claimM nm fs (i:Int) n2).1]):=upd_same
       generalize L2.upd H18 lt (.lst [inO (claimM nm fs (i:Int) n1).1,inO (claimM nm fs (i:Int) n2).1])=H19 at W19 h19 ⊢
       try dsimp only [gName,List.set]
       cases hc1:(claimM nm fs (i:Int) n1).1 with
       | none=>
         rw [hc1] at h19
         refine ⟨_,rfl,lt,_,_,_,rfl,rfl,SqL.of h19,atI_nat (j:=0) rfl,rfl,_,rfl,ifF rfl (ifF rfl ?_)⟩
         refine ⟨_,rfl,lt,_,_,_,rfl,rfl,SqL.of h19,atI_nat (j:=0) rfl,rfl,_,rfl,ifT rfl ?_⟩
         refine ⟨_,rfl,lt,_,_,_,rfl,rfl,SqL.of h19,atI_nat (j:=1) rfl,rfl,?_⟩
         cases hc2:(claimM nm fs (i:Int) n2).1 with
         |none=>exact ⟨_,rfl,ifT rfl (k0 _)⟩
         | some t2=>
           rw [hc2] at h19
           exact ⟨_,rfl,ifF rfl ⟨_,rfl,lt,_,_,_,rfl,rfl,SqL.of h19,atI_nat (j:=1) rfl,t2,rfl,k0 _⟩⟩
       | some t=>
         obtain ⟨hc2,S2⟩:=S.claim B1 B2 (by omega) hc1
         obtain ⟨et,B1'⟩:=B1.claim (by omega) t hc1
         obtain ⟨_,B2'⟩:=B2.claim (by omega) t hc2
         rw [hc1,hc2] at h19
         have h19:H19 lt=some (.lst [.int t,.int t]):=h19
         refine ⟨_,rfl,lt,_,_,_,rfl,rfl,SqL.of h19,atI_nat (j:=0) rfl,rfl,_,rfl,ifT rfl ⟨_,rfl,lt,_,_,_,rfl,rfl,SqL.of h19,atI_nat (j:=1) rfl,_,rfl,lt,_,_,_,rfl,rfl,SqL.of h19,atI_nat (j:=0) rfl,rfl,_,rfl,ifF (by simp) ?_⟩⟩
         refine ⟨_,rfl,lt,_,_,_,rfl,rfl,SqL.of h19,atI_nat (j:=0) rfl,rfl,_,rfl,ifF rfl ?_⟩
         try dsimp only [tNext]
         refine ⟨_,rfl,.inl ⟨rfl,_,SqL.of W19.hq⟩,_,rfl,lt,_,_,_,rfl,rfl,SqL.of h19,atI_nat (j:=0) rfl,lp,_,_,rfl,rfl,W19.hq,by rw [List.length_map];omega,?_⟩
         have ep:pile.map V.int++[.int t]=(pile++[t]).map V.int:=by simp
         rw [ep]
         exact ⟨k1',k2',_,_,pile++[t],_,_,_,_,_,_,_,rfl,ka1',ka2',W19.pil,B1',B2',S2⟩
    ·refine ifF (by simpa using h3) ?_
     refine ⟨_,rfl,(show 0≤sizeLine by decide),fun l0 hl0=>?_⟩
     have W16:=W15.same (Same.new (o:=.lst []) hl0)
     have h16:(L2.upd H15 l0 (.lst [])) l0=some (.lst []):=upd_same
     generalize L2.upd H15 l0 (.lst [])=H16 at W16 h16 ⊢
     clear W15
     refine ⟨pile.map PyData.int,[],.lst (SqL.of W16.hq) (reps_intL _),.lst (SqL.of h16) .nil,by rw [dep_intL];decide,_,rfl,?_⟩
     rcases List.eq_nil_or_concat pile with e|⟨pl,tk,e⟩
     ·subst e
      exact ifF rfl ⟨k1,k2,n1,n2,[],_,_,_,_,_,_,_,rfl,ka1,ka2,W16,B1.up,B2.up,S⟩
     ·rw [List.concat_eq_append] at e
      subst e
      refine ifT (by cases pl <;> simp [pdEqs]) ?_
      have ex:((pl++[tk]).map V.int)[((pl++[tk]).map V.int).length-1]?=some (.int tk):=by simp
      refine ⟨_,rfl,.inl ⟨rfl,_,SqL.of W16.hq⟩,lp,_,_,rfl,rfl,W16.hq,ex,?_⟩
      have ed:((pl++[tk]).map V.int).dropLast=pl.map V.int:=by simp
      rw [ed]
      have W17:=W16.pil (pile':=pl)
      generalize L2.upd H16 lp (.lst (pl.map V.int))=H17 at W17 ⊢
      clear W16 h16
      obtain ⟨q1,m1,ew1,em1,_⟩:=B1.last
      obtain ⟨q2,m2,ew2,em2,_⟩:=B2.last
      have wnd:=B1.wnd
      have uni:∀ m∈wait n1,m.tk=tk->1+(m.fi.length:Int)=1+(m1.fi.length:Int):=fun m mm e=>by
       have m1w:m1∈wait n1:=by rw [ew1];simp
       obtain ⟨i1,hi1⟩:=List.mem_iff_getElem?.mp mm
       obtain ⟨i2,hi2⟩:=List.mem_iff_getElem?.mp m1w
       have e1:((wait n1).map (·.tk))[i1]?=some tk:=by rw [List.getElem?_map,hi1];simp [e]
       have e2:((wait n1).map (·.tk))[i2]?=some tk:=by rw [List.getElem?_map,hi2];simp [em1]
       have:=(List.getElem?_inj (List.getElem?_eq_some_iff.mp e1).1 wnd).mp (e1.trans e2.symm)
       rw [this,hi2] at hi1
       rw [← Option.some.inj hi1]
      try dsimp only [List.set]
      refine ⟨_,rfl,_,rfl,(show 2≤sizeLine by decide),fun tt htt=>?_⟩
      have W18:=W17.same (Same.new (o:=.tup [.ref x,.ref y]) htt)
      have h18:(L2.upd H17 tt (.tup [.ref x,.ref y])) tt=some (.tup [.ref x,.ref y]):=upd_same
      generalize L2.upd H17 tt (.tup [.ref x,.ref y])=H18 at W18 h18 ⊢
      clear W17
      refine ⟨tt,rfl,⟨_,SqT.of h18⟩,?_⟩
      by_cases h4:wy=3
      ·refine for_tup (K:=K) (a:=tt) (xs:=[.ref x,.ref y]) (fun j σ' H'=>∃ u k1' k2' n1' n2',σ'=[some (.ref sa),some (.ref p),some (.ref lk),some (.int (2+r2)),some (.int (5+r3)),some (.bl over),some (.ref x),some (.ref y),some (.ref o),some (.ref lp),some (.int (0+(i:Int))),u11,some (.int wy),u13,u14,some (.int tk),u]/\TK H18 H'/\YW Z C p dc lk lp o k1' k2' n1' n2' pl H'/\k1'.a=x/\k2'.a=y/\((j=0/\n1'=n1/\n2'=n2)∨(j=1/\n1'=giveM tk n1/\n2'=n2)∨(j=2/\n1'=giveM tk n1/\n2'=giveM tk n2))) ⟨_,k1,k2,n1,n2,rfl,fun _ _ e=>e,W18,ka1,ka2,.inl ⟨rfl,rfl,rfl⟩⟩ (fun j σ' H' _ z=>by
        obtain ⟨_,_,_,_,_,_,tk,_⟩:=z
        exact SqT.of (tk _ _ h18)) ?_ ?_
       ·rintro j v σ' H19 hj ⟨u,k1',k2',n1',n2',rfl,tk19,W19,ka1',ka2',cs⟩
        dsimp only [gName,List.set]
        refine ⟨_,rfl,rfl,_,rfl,ifT (by simp [h4]) ?_⟩
        rcases cs with ⟨rfl,rfl,rfl⟩|⟨rfl,rfl,rfl⟩|⟨rfl,_⟩
        ·have:v=.ref x:=by simpa using hj.symm
         subst this
         obtain ⟨dq,eq⟩:=W19.l1.ob
         rw [ka1'] at eq
         obtain ⟨c9,p9,_,_,_⟩:=B1.bds W19.l1 (by omega) (by omega)
         exact ⟨_,rfl,x,dq,_,rfl,eq,rfl,_,rfl,k1',n1',tk,(by rw [ka1'];rfl),W19.l1,c9,p9,B1.nd,⟨q1,m1,ew1,em1⟩,fun H20 ln' mv=>⟨_,k1',k2',_,n2',rfl,tk19.trans (W19.l1.tks L.ok mv),W19.mv1 L.ok LN ln' mv,ka1',ka2',.inr (.inl ⟨rfl,rfl,rfl⟩)⟩⟩
        ·have:v=.ref y:=by simpa using hj.symm
         subst this
         obtain ⟨dq,eq⟩:=W19.l2.ob
         rw [ka2'] at eq
         obtain ⟨c9,p9,_,_,_⟩:=B2.bds W19.l2 (by omega) (by omega)
         exact ⟨_,rfl,y,dq,_,rfl,eq,rfl,_,rfl,k2',n2',tk,(by rw [ka2'];rfl),W19.l2,c9,p9,B2.nd,⟨q2,m2,ew2,em2⟩,fun H20 ln' mv=>⟨_,k1',k2',_,_,rfl,tk19.trans (W19.l2.tks L.ok mv),W19.mv2 L.ok LN ln' mv,ka1',ka2',.inr (.inr ⟨rfl,rfl,rfl⟩)⟩⟩
        ·simp at hj
       ·rintro σ' H19 ⟨u,k1',k2',n1',n2',rfl,tk19,W19,ka1',ka2',cs⟩
        rcases cs with ⟨z,_⟩|⟨z,_⟩|⟨_,rfl,rfl⟩
        ·simp at z
        ·simp at z
        ·exact ⟨k1',k2',_,_,pl,_,_,_,_,_,_,_,rfl,ka1',ka2',W19,B1.give,B2.give,S.give⟩
      ·refine for_tup (K:=K) (a:=tt) (xs:=[.ref x,.ref y]) (fun j σ' H'=>∃ u k1' k2' n1' n2',σ'=[some (.ref sa),some (.ref p),some (.ref lk),some (.int (2+r2)),some (.int (5+r3)),some (.bl over),some (.ref x),some (.ref y),some (.ref o),some (.ref lp),some (.int (0+(i:Int))),u11,some (.int wy),u13,u14,some (.int tk),u]/\TK H18 H'/\YW Z C p dc lk lp o k1' k2' n1' n2' pl H'/\k1'.a=x/\k2'.a=y/\((j=0/\n1'=n1/\n2'=n2)∨(j=1/\n1'=throwM tk (1+(m1.fi.length:Int)) n1/\n2'=n2)∨(j=2/\n1'=throwM tk (1+(m1.fi.length:Int)) n1/\n2'=throwM tk (1+(m1.fi.length:Int)) n2))) ⟨_,k1,k2,n1,n2,rfl,fun _ _ e=>e,W18,ka1,ka2,.inl ⟨rfl,rfl,rfl⟩⟩ (fun j σ' H' _ z=>by
        obtain ⟨_,_,_,_,_,_,tk,_⟩:=z
        exact SqT.of (tk _ _ h18)) ?_ ?_
       ·rintro j v σ' H19 hj ⟨u,k1',k2',n1',n2',rfl,tk19,W19,ka1',ka2',cs⟩
        dsimp only [gName,List.set]
        refine ⟨_,rfl,rfl,_,rfl,ifF (by simp [h4]) ?_⟩
        rcases cs with ⟨rfl,rfl,rfl⟩|⟨rfl,rfl,rfl⟩|⟨rfl,_⟩
        ·have:v=.ref x:=by simpa using hj.symm
         subst this
         obtain ⟨dq,eq⟩:=W19.l1.ob
         rw [ka1'] at eq
         obtain ⟨c9,p9,_,_,_⟩:=B1.bds W19.l1 (by omega) (by omega)
         exact ⟨_,rfl,x,dq,_,rfl,eq,rfl,_,rfl,k1',n1',tk,1+(m1.fi.length:Int),(by rw [ka1'];rfl),W19.l1,c9,p9,⟨q1,m1,ew1,em1⟩,uni,fun k' H20 ln' mv _=>⟨_,k',k2',_,n2',rfl,tk19.trans (W19.l1.tks L.ok mv),W19.mv1 L.ok LN ln' mv,mv.a.trans ka1',ka2',.inr (.inl ⟨rfl,rfl,rfl⟩)⟩⟩
        ·have:v=.ref y:=by simpa using hj.symm
         subst this
         obtain ⟨dq,eq⟩:=W19.l2.ob
         rw [ka2'] at eq
         obtain ⟨c9,p9,_,_,_⟩:=B2.bds W19.l2 (by omega) (by omega)
         exact ⟨_,rfl,y,dq,_,rfl,eq,rfl,_,rfl,k2',n2',tk,1+(m1.fi.length:Int),(by rw [ka2'];rfl),W19.l2,c9,p9,⟨q2,m2,ew2,em2⟩,fun m mm e=>uni m (S.opens m mm) e,fun k' H20 ln' mv _=>⟨_,k1',k',_,_,rfl,tk19.trans (W19.l2.tks L.ok mv),W19.mv2 L.ok LN ln' mv,ka1',mv.a.trans ka2',.inr (.inr ⟨rfl,rfl,rfl⟩)⟩⟩
        ·simp at hj
       ·rintro σ' H19 ⟨u,k1',k2',n1',n2',rfl,tk19,W19,ka1',ka2',cs⟩
        rcases cs with ⟨z,_⟩|⟨z,_⟩|⟨_,rfl,rfl⟩
        ·simp at z
        ·simp at z
        ·exact ⟨k1',k2',_,_,pl,_,_,_,_,_,_,_,rfl,ka1',ka2',W19,B1.throw,B2.throw,S.throw (pile':=pl) (turn':=0) B1⟩
  ·rintro σ H10 ⟨k1,k2,n1,n2,pile,u10,u11,u12,u13,u14,u15,u16,rfl,ka1,ka2,W,B1,B2,S⟩
   obtain ⟨d1,e1⟩:=W.l1.ob
   rw [ka1] at e1
   obtain ⟨d2,e2⟩:=W.l2.ob
   rw [ka2] at e2
   refine ⟨_,rfl,x,d1,_,rfl,e1,rfl,k1,n1,(by rw [ka1];rfl),W.l1,fun t1 H11 s11 ht1=>?_⟩
   refine ⟨t1,_,_,_,rfl,rfl,SqT.of ht1,atI_nat (j:=0) rfl,_,rfl,y,d2,_,rfl,s11 _ _ e2,rfl,k2,n2,(by rw [ka2];rfl),W.l2.same s11,fun t2 H12 s12 ht2=>?_⟩
   refine ⟨t2,_,_,_,rfl,rfl,SqT.of ht2,atI_nat (j:=0) rfl,rfl,_,rfl,ifT (by rw [S.giv];simp) ?_⟩
   have S12:=s11.trans s12
   refine ⟨_,rfl,y,d2,_,rfl,S12 _ _ e2,rfl,k2,n2,(by rw [ka2];rfl),W.l2.same S12,fun t3 H13 s13 ht3=>?_⟩
   have S13:=S12.trans s13
   refine ⟨t3,_,_,_,rfl,rfl,SqT.of ht3,atI_nat (j:=2) rfl,_,rfl,x,d1,_,rfl,S13 _ _ e1,rfl,k1,n1,(by rw [ka1];rfl),W.l1.same S13,fun t4 H14 s14 ht4=>?_⟩
   refine ⟨t4,_,_,_,rfl,rfl,SqT.of ht4,atI_nat (j:=2) rfl,_,_,rfl,rfl,?_⟩
   have:=S.los
   simpa [this] using k0 _
end
theorem all_mk {l:PySem.W.OpenLaw} {w:World} {K:PySem.W.Frag} {h:Heap} {mg:Str->Option Value} {fa fB fP fO fW fWs fBd fFi fKs fI fNn fNf fNp fNr fTf fPb fNu fLa qK fKI TdK d0K fLo0 fCe qC fCI fTa qG fGI fUn fWo qL fLI fCm fMr fEl fLe fLv fWt fWw fLw fGv fSd fLk fTk fHo fTh fCo qW fWI fMo:Addr} (X:K.In h) (G:h.Ns mainGlobals mg) (hfa:mg "law" = some (.ref fa))
 {odB anB odP anP odO anO odW anW odWs anWs odBd anBd odFi anFi odKs anKs odI anI odNn anNn odNf anNf odNp anNp odNr anNr odTf anTf odPb anPb odNu anNu odLa anLa odKI anKI odTK odLo0 anLo0 odCe anCe odCI anCI odTa anTa odGI anGI odUn anUn odWo anWo odLI anLI odCm anCm odMr anMr odEl anEl odLe anLe odLv anLv odWt anWt odWw anWw odLw anLw odGv anGv odSd anSd odLk anLk odTk anTk odHo anHo odTh anTh odCo anCo odWI anWI odMo anMo:Option Addr} {slB slP slO slW slWs slBd slFi slKs slI slNn slNf slNp slNr slTf slPb slNu slLa slKI slTK slLo0 slCe slCI slTa slGI slUn slWo slLI slCm slMr slEl slLe slLv slWt slWw slLw slGv slSd slLk slTk slHo slTh slCo slWI slMo:Array (Option Value)} {t0 t1 t2 t3 t4 t5 t6 nTK:Nat} {ocB kVB dcB pmB cdB ctB ocP kVP dcP pmP cdP ctP ocO kVO dcO pmO cdO ctO ocW kVW dcW pmW cdW ctW ocWs kVWs dcWs pmWs cdWs ctWs ocBd kVBd dcBd pmBd cdBd ctBd ocFi kVFi dcFi pmFi cdFi ctFi ocKs kVKs dcKs pmKs cdKs ctKs ocI kVI dcI pmI cdI ctI ocNn kVNn dcNn pmNn cdNn ctNn ocNf kVNf dcNf pmNf cdNf ctNf ocNp kVNp dcNp pmNp cdNp ctNp ocNr kVNr dcNr pmNr cdNr ctNr ocTf kVTf dcTf pmTf cdTf ctTf ocPb kVPb dcPb pmPb cdPb ctPb ocNu kVNu dcNu pmNu cdNu ctNu ocLa kVLa dcLa pmLa cdLa ctLa ocKI kVKI dcKI pmKI cdKI ctKI ocTK ocLo0 kVLo0 dcLo0 pmLo0 cdLo0 ctLo0 ocCe kVCe dcCe pmCe cdCe ctCe ocCI kVCI dcCI pmCI cdCI ctCI ocTa kVTa dcTa pmTa cdTa ctTa ocGI kVGI dcGI pmGI cdGI ctGI ocUn kVUn dcUn pmUn cdUn ctUn ocWo kVWo dcWo pmWo cdWo ctWo ocLI kVLI dcLI pmLI cdLI ctLI ocCm kVCm dcCm pmCm cdCm ctCm ocMr kVMr dcMr pmMr cdMr ctMr ocEl kVEl dcEl pmEl cdEl ctEl ocLe kVLe dcLe pmLe cdLe ctLe ocLv kVLv dcLv pmLv cdLv ctLv ocWt kVWt dcWt pmWt cdWt ctWt ocWw kVWw dcWw pmWw cdWw ctWw ocLw kVLw dcLw pmLw cdLw ctLw ocGv kVGv dcGv pmGv cdGv ctGv ocSd kVSd dcSd pmSd cdSd ctSd ocLk kVLk dcLk pmLk cdLk ctLk ocTk kVTk dcTk pmTk cdTk ctTk ocHo kVHo dcHo pmHo cdHo ctHo ocTh kVTh dcTh pmTh cdTh ctTh ocCo kVCo dcCo pmCo cdCo ctCo ocWI kVWI dcWI pmWI cdWI ctWI ocMo kVMo dcMo pmMo cdMo ctMo:Value}
 (aB:PySem.W.nsIn K mainGlobals "_law_begin" = some (some (.ref fB)))
 (lB:K.lookup fB=some ⟨ocB,odB,.func (PySem.W.fnOf "_law_begin" "_law_begin" (defArgs (top 39)) (defBody (top 39)) (defScope (top 39)) .none kVB dcB pmB anB cdB ctB),slB⟩)
 (cB:PySem.W.codeIn K cdB "_law_begin" = true)
 (kB:PySem.W.keepIn K (.ref fB)=true)
 (aP:PySem.W.nsIn K mainGlobals "_law_pick" = some (some (.ref fP)))
 (lP:K.lookup fP=some ⟨ocP,odP,.func (PySem.W.fnOf "_law_pick" "_law_pick" (defArgs (top 40)) (defBody (top 40)) (defScope (top 40)) .none kVP dcP pmP anP cdP ctP),slP⟩)
 (cP:PySem.W.codeIn K cdP "_law_pick" = true)
 (kP:PySem.W.keepIn K (.ref fP)=true)
 (aO:PySem.W.nsIn K mainGlobals "_law_of" = some (some (.ref fO)))
 (lO:K.lookup fO=some ⟨ocO,odO,.func (PySem.W.fnOf "_law_of" "_law_of" (defArgs (top 41)) (defBody (top 41)) (defScope (top 41)) .none kVO dcO pmO anO cdO ctO),slO⟩)
 (cO:PySem.W.codeIn K cdO "_law_of" = true)
 (kO:PySem.W.keepIn K (.ref fO)=true)
 (aW:PySem.W.nsIn K mainGlobals "_law_word" = some (some (.ref fW)))
 (lW:K.lookup fW=some ⟨ocW,odW,.func (PySem.W.fnOf "_law_word" "_law_word" (defArgs (top 42)) (defBody (top 42)) (defScope (top 42)) .none kVW dcW pmW anW cdW ctW),slW⟩)
 (cW:PySem.W.codeIn K cdW "_law_word" = true)
 (kW:PySem.W.keepIn K (.ref fW)=true)
 (aWs:PySem.W.nsIn K mainGlobals "_law_words" = some (some (.ref fWs)))
 (lWs:K.lookup fWs=some ⟨ocWs,odWs,.func (PySem.W.fnOf "_law_words" "_law_words" (defArgs (top 43)) (defBody (top 43)) (defScope (top 43)) .none kVWs dcWs pmWs anWs cdWs ctWs),slWs⟩)
 (cWs:PySem.W.codeIn K cdWs "_law_words" = true)
 (kWs:PySem.W.keepIn K (.ref fWs)=true)
 (aBd:PySem.W.nsIn K mainGlobals "_law_bound" = some (some (.ref fBd)))
 (lBd:K.lookup fBd=some ⟨ocBd,odBd,.func (PySem.W.fnOf "_law_bound" "_law_bound" (defArgs (top 44)) (defBody (top 44)) (defScope (top 44)) .none kVBd dcBd pmBd anBd cdBd ctBd),slBd⟩)
 (cBd:PySem.W.codeIn K cdBd "_law_bound" = true)
 (kBd:PySem.W.keepIn K (.ref fBd)=true)
 (aFi:PySem.W.nsIn K mainGlobals "_law_fields" = some (some (.ref fFi)))
 (lFi:K.lookup fFi=some ⟨ocFi,odFi,.func (PySem.W.fnOf "_law_fields" "_law_fields" (defArgs (top 45)) (defBody (top 45)) (defScope (top 45)) .none kVFi dcFi pmFi anFi cdFi ctFi),slFi⟩)
 (cFi:PySem.W.codeIn K cdFi "_law_fields" = true)
 (kFi:PySem.W.keepIn K (.ref fFi)=true)
 (aKs:PySem.W.nsIn K mainGlobals "_law_kinds_for" = some (some (.ref fKs)))
 (lKs:K.lookup fKs=some ⟨ocKs,odKs,.func (PySem.W.fnOf "_law_kinds_for" "_law_kinds_for" (defArgs (top 46)) (defBody (top 46)) (defScope (top 46)) .none kVKs dcKs pmKs anKs cdKs ctKs),slKs⟩)
 (cKs:PySem.W.codeIn K cdKs "_law_kinds_for" = true)
 (kKs:PySem.W.keepIn K (.ref fKs)=true)
 (aI:PySem.W.nsIn K mainGlobals "is_name" = some (some (.ref fI)))
 (lI:K.lookup fI=some ⟨ocI,odI,.func (PySem.W.fnOf "is_name" "is_name" (defArgs (top 16)) (defBody (top 16)) (defScope (top 16)) .none kVI dcI pmI anI cdI ctI),slI⟩)
 (cI:PySem.W.codeIn K cdI "is_name" = true)
 (kI:PySem.W.keepIn K (.ref fI)=true)
 (aNn:PySem.W.nsIn K mainGlobals "need_name" = some (some (.ref fNn)))
 (lNn:K.lookup fNn=some ⟨ocNn,odNn,.func (PySem.W.fnOf "need_name" "need_name" (defArgs (top 17)) (defBody (top 17)) (defScope (top 17)) .none kVNn dcNn pmNn anNn cdNn ctNn),slNn⟩)
 (cNn:PySem.W.codeIn K cdNn "need_name" = true)
 (kNn:PySem.W.keepIn K (.ref fNn)=true)
 (aNf:PySem.W.nsIn K mainGlobals "need_fields" = some (some (.ref fNf)))
 (lNf:K.lookup fNf=some ⟨ocNf,odNf,.func (PySem.W.fnOf "need_fields" "need_fields" (defArgs (top 18)) (defBody (top 18)) (defScope (top 18)) .none kVNf dcNf pmNf anNf cdNf ctNf),slNf⟩)
 (cNf:PySem.W.codeIn K cdNf "need_fields" = true)
 (kNf:PySem.W.keepIn K (.ref fNf)=true)
 (aNp:PySem.W.nsIn K mainGlobals "need_pages" = some (some (.ref fNp)))
 (lNp:K.lookup fNp=some ⟨ocNp,odNp,.func (PySem.W.fnOf "need_pages" "need_pages" (defArgs (top 28)) (defBody (top 28)) (defScope (top 28)) .none kVNp dcNp pmNp anNp cdNp ctNp),slNp⟩)
 (cNp:PySem.W.codeIn K cdNp "need_pages" = true)
 (kNp:PySem.W.keepIn K (.ref fNp)=true)
 (aNr:PySem.W.nsIn K mainGlobals "need_room" = some (some (.ref fNr)))
 (lNr:K.lookup fNr=some ⟨ocNr,odNr,.func (PySem.W.fnOf "need_room" "need_room" (defArgs (top 29)) (defBody (top 29)) (defScope (top 29)) .none kVNr dcNr pmNr anNr cdNr ctNr),slNr⟩)
 (cNr:PySem.W.codeIn K cdNr "need_room" = true)
 (kNr:PySem.W.keepIn K (.ref fNr)=true)
 (aTf:PySem.W.nsIn K mainGlobals "told_from" = some (some (.ref fTf)))
 (lTf:K.lookup fTf=some ⟨ocTf,odTf,.func (PySem.W.fnOf "told_from" "told_from" (defArgs (top 30)) (defBody (top 30)) (defScope (top 30)) .none kVTf dcTf pmTf anTf cdTf ctTf),slTf⟩)
 (cTf:PySem.W.codeIn K cdTf "told_from" = true)
 (kTf:PySem.W.keepIn K (.ref fTf)=true)
 (aPb:PySem.W.nsIn K mainGlobals "place_behind" = some (some (.ref fPb)))
 (lPb:K.lookup fPb=some ⟨ocPb,odPb,.func (PySem.W.fnOf "place_behind" "place_behind" (defArgs (top 31)) (defBody (top 31)) (defScope (top 31)) .none kVPb dcPb pmPb anPb cdPb ctPb),slPb⟩)
 (cPb:PySem.W.codeIn K cdPb "place_behind" = true)
 (kPb:PySem.W.keepIn K (.ref fPb)=true)
 (aNu:PySem.W.nsIn K mainGlobals "_law_num" = some (some (.ref fNu)))
 (lNu:K.lookup fNu=some ⟨ocNu,odNu,.func (PySem.W.fnOf "_law_num" "_law_num" (defArgs (top 47)) (defBody (top 47)) (defScope (top 47)) .none kVNu dcNu pmNu anNu cdNu ctNu),slNu⟩)
 (cNu:PySem.W.codeIn K cdNu "_law_num" = true)
 (kNu:PySem.W.keepIn K (.ref fNu)=true)
 (aLa:PySem.W.nsIn K mainGlobals "law" = some (some (.ref fLa)))
 (lLa:K.lookup fLa=some ⟨ocLa,odLa,.func (PySem.W.fnOf "law" "law" (defArgs (top 48)) (defBody (top 48)) (defScope (top 48)) .none kVLa dcLa pmLa anLa cdLa ctLa),slLa⟩)
 (cLa:PySem.W.codeIn K cdLa "law" = true)
 (kLa:PySem.W.keepIn K (.ref fLa)=true)
 (z_len:PySem.W.nsIn K mainGlobals "len" = some none)
 (z_range:PySem.W.nsIn K mainGlobals "range" = some none)
 (z_list:PySem.W.nsIn K mainGlobals "list" = some none)
 (z_tuple:PySem.W.nsIn K mainGlobals "tuple" = some none)
 (z_str:PySem.W.nsIn K mainGlobals "str" = some none)
 (z_bool:PySem.W.nsIn K mainGlobals "bool" = some none)
 (z_int:PySem.W.nsIn K mainGlobals "int" = some none)
 (z_min:PySem.W.nsIn K mainGlobals "min" = some none)
 (z_repr:PySem.W.nsIn K mainGlobals "repr" = some none)
 (z_all:PySem.W.nsIn K mainGlobals "all" = some none)
 (z_any:PySem.W.nsIn K mainGlobals "any" = some none)
 (z_isinstance:PySem.W.nsIn K mainGlobals "isinstance" = some none)
 (i_MOST_LETTERS:PySem.W.nsIn K mainGlobals "MOST_LETTERS" = some (some (.int 8 t0)))
 (i_MOST_FIELDS:PySem.W.nsIn K mainGlobals "MOST_FIELDS" = some (some (.int 4 t1)))
 (i_LIMIT:PySem.W.nsIn K mainGlobals "LIMIT" = some (some (.int 999999 t2)))
 (i_FEWEST_PAGES:PySem.W.nsIn K mainGlobals "FEWEST_PAGES" = some (some (.int 2 t3)))
 (i_MOST_PAGES:PySem.W.nsIn K mainGlobals "MOST_PAGES" = some (some (.int 16 t4)))
 (i_LEAST_ROOM:PySem.W.nsIn K mainGlobals "LEAST_ROOM" = some (some (.int 5 t5)))
 (i_MOST_ROOM:PySem.W.nsIn K mainGlobals "MOST_ROOM" = some (some (.int 12 t6)))
 (a_qK:PySem.W.nsIn K mainGlobals "Kind" = some (some (.ref qK)))
 (pgK:PySem.W.plainGet K qK Str.empty=true)
 (hdK:PySem.W.hasDictIn K qK=true)
 (poK:PySem.W.plainOver K qK=true)
 (saK:PySem.W.findIn K (.ref qK) "__setattr__" = some (some (.builtin "object.__setattr__")))
 (mkK:PySem.W.makesIn K qK=true)
 (kcK:PySem.W.keepIn K (.ref qK)=true)
 (nK_name:PySem.W.findIn K (.ref qK) "name" = some none)
 (nK_fields:PySem.W.findIn K (.ref qK) "fields" = some none)
 (aKI:PySem.W.findIn K (.ref qK) "__init__" = some (some (.ref fKI)))
 (lKI:K.lookup fKI=some ⟨ocKI,odKI,.func (PySem.W.fnOf "__init__" "Kind.__init__" (defArgs (kM 0)) (defBody (kM 0)) (defScope (kM 0)) (.ref TdK) kVKI dcKI pmKI anKI cdKI ctKI),slKI⟩)
 (cKI:PySem.W.codeIn K cdKI "Kind.__init__" = true)
 (kKI:PySem.W.keepIn K (.ref fKI)=true)
 (iKI:PySem.W.isFn K (.ref fKI)=true)
 (lTK:K.lookup TdK=some ⟨ocTK,odTK,.seq #[.ref d0K] nTK,slTK⟩)
 (aLo0:PySem.W.findIn K (.ref qK) "lowest" = some (some (.ref fLo0)))
 (iLo0:PySem.W.isFn K (.ref fLo0)=true)
 (lLo0:K.lookup fLo0=some ⟨ocLo0,odLo0,.func (PySem.W.fnOf "lowest" "Kind.lowest" (defArgs (kM 1)) (defBody (kM 1)) (defScope (kM 1)) .none kVLo0 dcLo0 pmLo0 anLo0 cdLo0 ctLo0),slLo0⟩)
 (cLo0:PySem.W.codeIn K cdLo0 "Kind.lowest" = true)
 (kLo0:PySem.W.keepIn K (.ref fLo0)=true)
 (aCe:PySem.W.findIn K (.ref qK) "cells" = some (some (.ref fCe)))
 (iCe:PySem.W.isFn K (.ref fCe)=true)
 (lCe:K.lookup fCe=some ⟨ocCe,odCe,.func (PySem.W.fnOf "cells" "Kind.cells" (defArgs (kM 2)) (defBody (kM 2)) (defScope (kM 2)) .none kVCe dcCe pmCe anCe cdCe ctCe),slCe⟩)
 (cCe:PySem.W.codeIn K cdCe "Kind.cells" = true)
 (kCe:PySem.W.keepIn K (.ref fCe)=true)
 (a_qC:PySem.W.nsIn K mainGlobals "Claim" = some (some (.ref qC)))
 (pgC:PySem.W.plainGet K qC Str.empty=true)
 (hdC:PySem.W.hasDictIn K qC=true)
 (poC:PySem.W.plainOver K qC=true)
 (saC:PySem.W.findIn K (.ref qC) "__setattr__" = some (some (.builtin "object.__setattr__")))
 (mkC:PySem.W.makesIn K qC=true)
 (kcC:PySem.W.keepIn K (.ref qC)=true)
 (nC_ticket:PySem.W.findIn K (.ref qC) "ticket" = some none)
 (nC_time:PySem.W.findIn K (.ref qC) "time" = some none)
 (nC_form:PySem.W.findIn K (.ref qC) "form" = some none)
 (nC_filled:PySem.W.findIn K (.ref qC) "filled" = some none)
 (nC_given:PySem.W.findIn K (.ref qC) "given" = some none)
 (aCI:PySem.W.findIn K (.ref qC) "__init__" = some (some (.ref fCI)))
 (lCI:K.lookup fCI=some ⟨ocCI,odCI,.func (PySem.W.fnOf "__init__" "Claim.__init__" (defArgs (cM 0)) (defBody (cM 0)) (defScope (cM 0)) .none kVCI dcCI pmCI anCI cdCI ctCI),slCI⟩)
 (cCI:PySem.W.codeIn K cdCI "Claim.__init__" = true)
 (kCI:PySem.W.keepIn K (.ref fCI)=true)
 (iCI:PySem.W.isFn K (.ref fCI)=true)
 (aTa:PySem.W.findIn K (.ref qC) "told_at" = some (some (.ref fTa)))
 (iTa:PySem.W.isFn K (.ref fTa)=true)
 (lTa:K.lookup fTa=some ⟨ocTa,odTa,.func (PySem.W.fnOf "told_at" "Claim.told_at" (defArgs (cM 1)) (defBody (cM 1)) (defScope (cM 1)) .none kVTa dcTa pmTa anTa cdTa ctTa),slTa⟩)
 (cTa:PySem.W.codeIn K cdTa "Claim.told_at" = true)
 (kTa:PySem.W.keepIn K (.ref fTa)=true)
 (a_qG:PySem.W.nsIn K mainGlobals "Page" = some (some (.ref qG)))
 (pgG:PySem.W.plainGet K qG Str.empty=true)
 (hdG:PySem.W.hasDictIn K qG=true)
 (poG:PySem.W.plainOver K qG=true)
 (saG:PySem.W.findIn K (.ref qG) "__setattr__" = some (some (.builtin "object.__setattr__")))
 (mkG:PySem.W.makesIn K qG=true)
 (kcG:PySem.W.keepIn K (.ref qG)=true)
 (nG_claims:PySem.W.findIn K (.ref qG) "claims" = some none)
 (nG_used:PySem.W.findIn K (.ref qG) "used" = some none)
 (nG_gone:PySem.W.findIn K (.ref qG) "gone" = some none)
 (aGI:PySem.W.findIn K (.ref qG) "__init__" = some (some (.ref fGI)))
 (lGI:K.lookup fGI=some ⟨ocGI,odGI,.func (PySem.W.fnOf "__init__" "Page.__init__" (defArgs (gM 0)) (defBody (gM 0)) (defScope (gM 0)) .none kVGI dcGI pmGI anGI cdGI ctGI),slGI⟩)
 (cGI:PySem.W.codeIn K cdGI "Page.__init__" = true)
 (kGI:PySem.W.keepIn K (.ref fGI)=true)
 (iGI:PySem.W.isFn K (.ref fGI)=true)
 (aUn:PySem.W.findIn K (.ref qG) "unclosed" = some (some (.ref fUn)))
 (iUn:PySem.W.isFn K (.ref fUn)=true)
 (lUn:K.lookup fUn=some ⟨ocUn,odUn,.func (PySem.W.fnOf "unclosed" "Page.unclosed" (defArgs (gM 1)) (defBody (gM 1)) (defScope (gM 1)) .none kVUn dcUn pmUn anUn cdUn ctUn),slUn⟩)
 (cUn:PySem.W.codeIn K cdUn "Page.unclosed" = true)
 (kUn:PySem.W.keepIn K (.ref fUn)=true)
 (aWo:PySem.W.findIn K (.ref qG) "without" = some (some (.ref fWo)))
 (iWo:PySem.W.isFn K (.ref fWo)=true)
 (lWo:K.lookup fWo=some ⟨ocWo,odWo,.func (PySem.W.fnOf "without" "Page.without" (defArgs (gM 2)) (defBody (gM 2)) (defScope (gM 2)) .none kVWo dcWo pmWo anWo cdWo ctWo),slWo⟩)
 (cWo:PySem.W.codeIn K cdWo "Page.without" = true)
 (kWo:PySem.W.keepIn K (.ref fWo)=true)
 (a_qL:PySem.W.nsIn K mainGlobals "Lane" = some (some (.ref qL)))
 (pgL:PySem.W.plainGet K qL Str.empty=true)
 (hdL:PySem.W.hasDictIn K qL=true)
 (poL:PySem.W.plainOver K qL=true)
 (saL:PySem.W.findIn K (.ref qL) "__setattr__" = some (some (.builtin "object.__setattr__")))
 (mkL:PySem.W.makesIn K qL=true)
 (kcL:PySem.W.keepIn K (.ref qL)=true)
 (nL_most:PySem.W.findIn K (.ref qL) "most" = some none)
 (nL_room:PySem.W.findIn K (.ref qL) "room" = some none)
 (nL_over:PySem.W.findIn K (.ref qL) "over" = some none)
 (nL_pages:PySem.W.findIn K (.ref qL) "pages" = some none)
 (nL_held:PySem.W.findIn K (.ref qL) "held" = some none)
 (nL_told:PySem.W.findIn K (.ref qL) "told" = some none)
 (nL_last_time:PySem.W.findIn K (.ref qL) "last_time" = some none)
 (nL_tickets:PySem.W.findIn K (.ref qL) "tickets" = some none)
 (nL_given_in:PySem.W.findIn K (.ref qL) "given_in" = some none)
 (nL_thrown_back:PySem.W.findIn K (.ref qL) "thrown_back" = some none)
 (nL_lost:PySem.W.findIn K (.ref qL) "lost" = some none)
 (nL_missed:PySem.W.findIn K (.ref qL) "missed" = some none)
 (aLI:PySem.W.findIn K (.ref qL) "__init__" = some (some (.ref fLI)))
 (lLI:K.lookup fLI=some ⟨ocLI,odLI,.func (PySem.W.fnOf "__init__" "Lane.__init__" (defArgs (lM 0)) (defBody (lM 0)) (defScope (lM 0)) .none kVLI dcLI pmLI anLI cdLI ctLI),slLI⟩)
 (cLI:PySem.W.codeIn K cdLI "Lane.__init__" = true)
 (kLI:PySem.W.keepIn K (.ref fLI)=true)
 (iLI:PySem.W.isFn K (.ref fLI)=true)
 (hkL:∀ (S:Setting) (x a b c:Value),PySem.W.peek K S (bindArgs (PySem.W.fnOf "__init__" "Lane.__init__" (defArgs (lM 0)) (defBody (lM 0)) (defScope (lM 0)) .none kVLI dcLI pmLI anLI cdLI ctLI) ⟨[x],[("pages",a),("room",b),("over",c)]⟩)=some ([("self",x),("pages",a),("room",b),("over",c)]:List (Str×Value)))
 (aCm:PySem.W.findIn K (.ref qL) "claim" = some (some (.ref fCm)))
 (iCm:PySem.W.isFn K (.ref fCm)=true)
 (lCm:K.lookup fCm=some ⟨ocCm,odCm,.func (PySem.W.fnOf "claim" "Lane.claim" (defArgs (lM 1)) (defBody (lM 1)) (defScope (lM 1)) .none kVCm dcCm pmCm anCm cdCm ctCm),slCm⟩)
 (cCm:PySem.W.codeIn K cdCm "Lane.claim" = true)
 (kCm:PySem.W.keepIn K (.ref fCm)=true)
 (aMr:PySem.W.findIn K (.ref qL) "make_room" = some (some (.ref fMr)))
 (iMr:PySem.W.isFn K (.ref fMr)=true)
 (lMr:K.lookup fMr=some ⟨ocMr,odMr,.func (PySem.W.fnOf "make_room" "Lane.make_room" (defArgs (lM 2)) (defBody (lM 2)) (defScope (lM 2)) .none kVMr dcMr pmMr anMr cdMr ctMr),slMr⟩)
 (cMr:PySem.W.codeIn K cdMr "Lane.make_room" = true)
 (kMr:PySem.W.keepIn K (.ref fMr)=true)
 (aEl:PySem.W.findIn K (.ref qL) "eldest" = some (some (.ref fEl)))
 (iEl:PySem.W.isFn K (.ref fEl)=true)
 (lEl:K.lookup fEl=some ⟨ocEl,odEl,.func (PySem.W.fnOf "eldest" "Lane.eldest" (defArgs (lM 3)) (defBody (lM 3)) (defScope (lM 3)) .none kVEl dcEl pmEl anEl cdEl ctEl),slEl⟩)
 (cEl:PySem.W.codeIn K cdEl "Lane.eldest" = true)
 (kEl:PySem.W.keepIn K (.ref fEl)=true)
 (aLe:PySem.W.findIn K (.ref qL) "lose_eldest" = some (some (.ref fLe)))
 (iLe:PySem.W.isFn K (.ref fLe)=true)
 (lLe:K.lookup fLe=some ⟨ocLe,odLe,.func (PySem.W.fnOf "lose_eldest" "Lane.lose_eldest" (defArgs (lM 4)) (defBody (lM 4)) (defScope (lM 4)) .none kVLe dcLe pmLe anLe cdLe ctLe),slLe⟩)
 (cLe:PySem.W.codeIn K cdLe "Lane.lose_eldest" = true)
 (kLe:PySem.W.keepIn K (.ref fLe)=true)
 (aLv:PySem.W.findIn K (.ref qL) "leave" = some (some (.ref fLv)))
 (iLv:PySem.W.isFn K (.ref fLv)=true)
 (lLv:K.lookup fLv=some ⟨ocLv,odLv,.func (PySem.W.fnOf "leave" "Lane.leave" (defArgs (lM 5)) (defBody (lM 5)) (defScope (lM 5)) .none kVLv dcLv pmLv anLv cdLv ctLv),slLv⟩)
 (cLv:PySem.W.codeIn K cdLv "Lane.leave" = true)
 (kLv:PySem.W.keepIn K (.ref fLv)=true)
 (aWt:PySem.W.findIn K (.ref qL) "waiting" = some (some (.ref fWt)))
 (iWt:PySem.W.isFn K (.ref fWt)=true)
 (lWt:K.lookup fWt=some ⟨ocWt,odWt,.func (PySem.W.fnOf "waiting" "Lane.waiting" (defArgs (lM 6)) (defBody (lM 6)) (defScope (lM 6)) .none kVWt dcWt pmWt anWt cdWt ctWt),slWt⟩)
 (cWt:PySem.W.codeIn K cdWt "Lane.waiting" = true)
 (kWt:PySem.W.keepIn K (.ref fWt)=true)
 (aWw:PySem.W.findIn K (.ref qL) "waiting_with" = some (some (.ref fWw)))
 (iWw:PySem.W.isFn K (.ref fWw)=true)
 (lWw:K.lookup fWw=some ⟨ocWw,odWw,.func (PySem.W.fnOf "waiting_with" "Lane.waiting_with" (defArgs (lM 7)) (defBody (lM 7)) (defScope (lM 7)) .none kVWw dcWw pmWw anWw cdWw ctWw),slWw⟩)
 (cWw:PySem.W.codeIn K cdWw "Lane.waiting_with" = true)
 (kWw:PySem.W.keepIn K (.ref fWw)=true)
 (aLw:PySem.W.findIn K (.ref qL) "last_waiting" = some (some (.ref fLw)))
 (iLw:PySem.W.isFn K (.ref fLw)=true)
 (lLw:K.lookup fLw=some ⟨ocLw,odLw,.func (PySem.W.fnOf "last_waiting" "Lane.last_waiting" (defArgs (lM 8)) (defBody (lM 8)) (defScope (lM 8)) .none kVLw dcLw pmLw anLw cdLw ctLw),slLw⟩)
 (cLw:PySem.W.codeIn K cdLw "Lane.last_waiting" = true)
 (kLw:PySem.W.keepIn K (.ref fLw)=true)
 (aGv:PySem.W.findIn K (.ref qL) "give" = some (some (.ref fGv)))
 (iGv:PySem.W.isFn K (.ref fGv)=true)
 (lGv:K.lookup fGv=some ⟨ocGv,odGv,.func (PySem.W.fnOf "give" "Lane.give" (defArgs (lM 10)) (defBody (lM 10)) (defScope (lM 10)) .none kVGv dcGv pmGv anGv cdGv ctGv),slGv⟩)
 (cGv:PySem.W.codeIn K cdGv "Lane.give" = true)
 (kGv:PySem.W.keepIn K (.ref fGv)=true)
 (aSd:PySem.W.findIn K (.ref qL) "standing" = some (some (.ref fSd)))
 (iSd:PySem.W.isFn K (.ref fSd)=true)
 (lSd:K.lookup fSd=some ⟨ocSd,odSd,.func (PySem.W.fnOf "standing" "Lane.standing" (defArgs (lM 12)) (defBody (lM 12)) (defScope (lM 12)) .none kVSd dcSd pmSd anSd cdSd ctSd),slSd⟩)
 (cSd:PySem.W.codeIn K cdSd "Lane.standing" = true)
 (kSd:PySem.W.keepIn K (.ref fSd)=true)
 (aLk:PySem.W.findIn K (.ref qL) "look" = some (some (.ref fLk)))
 (iLk:PySem.W.isFn K (.ref fLk)=true)
 (lLk:K.lookup fLk=some ⟨ocLk,odLk,.func (PySem.W.fnOf "look" "Lane.look" (defArgs (lM 13)) (defBody (lM 13)) (defScope (lM 13)) .none kVLk dcLk pmLk anLk cdLk ctLk),slLk⟩)
 (cLk:PySem.W.codeIn K cdLk "Lane.look" = true)
 (kLk:PySem.W.keepIn K (.ref fLk)=true)
 (aTk:PySem.W.findIn K (.ref qL) "take" = some (some (.ref fTk)))
 (iTk:PySem.W.isFn K (.ref fTk)=true)
 (lTk:K.lookup fTk=some ⟨ocTk,odTk,.func (PySem.W.fnOf "take" "Lane.take" (defArgs (lM 14)) (defBody (lM 14)) (defScope (lM 14)) .none kVTk dcTk pmTk anTk cdTk ctTk),slTk⟩)
 (cTk:PySem.W.codeIn K cdTk "Lane.take" = true)
 (kTk:PySem.W.keepIn K (.ref fTk)=true)
 (aHo:PySem.W.findIn K (.ref qL) "hold" = some (some (.ref fHo)))
 (iHo:PySem.W.isFn K (.ref fHo)=true)
 (lHo:K.lookup fHo=some ⟨ocHo,odHo,.func (PySem.W.fnOf "hold" "Lane.hold" (defArgs (lM 15)) (defBody (lM 15)) (defScope (lM 15)) .none kVHo dcHo pmHo anHo cdHo ctHo),slHo⟩)
 (cHo:PySem.W.codeIn K cdHo "Lane.hold" = true)
 (kHo:PySem.W.keepIn K (.ref fHo)=true)
 (aTh:PySem.W.findIn K (.ref qL) "throw" = some (some (.ref fTh)))
 (iTh:PySem.W.isFn K (.ref fTh)=true)
 (lTh:K.lookup fTh=some ⟨ocTh,odTh,.func (PySem.W.fnOf "throw" "Lane.throw" (defArgs (lM 11)) (defBody (lM 11)) (defScope (lM 11)) .none kVTh dcTh pmTh anTh cdTh ctTh),slTh⟩)
 (cTh:PySem.W.codeIn K cdTh "Lane.throw" = true)
 (kTh:PySem.W.keepIn K (.ref fTh)=true)
 (aCo:PySem.W.findIn K (.ref qL) "counts" = some (some (.ref fCo)))
 (iCo:PySem.W.isFn K (.ref fCo)=true)
 (lCo:K.lookup fCo=some ⟨ocCo,odCo,.func (PySem.W.fnOf "counts" "Lane.counts" (defArgs (lM 19)) (defBody (lM 19)) (defScope (lM 19)) .none kVCo dcCo pmCo anCo cdCo ctCo),slCo⟩)
 (cCo:PySem.W.codeIn K cdCo "Lane.counts" = true)
 (kCo:PySem.W.keepIn K (.ref fCo)=true)
 (a_qW:PySem.W.nsIn K mainGlobals "Looker" = some (some (.ref qW)))
 (pgW:PySem.W.plainGet K qW Str.empty=true)
 (hdW:PySem.W.hasDictIn K qW=true)
 (poW:PySem.W.plainOver K qW=true)
 (saW:PySem.W.findIn K (.ref qW) "__setattr__" = some (some (.builtin "object.__setattr__")))
 (mkW:PySem.W.makesIn K qW=true)
 (kcW:PySem.W.keepIn K (.ref qW)=true)
 (nW_watched:PySem.W.findIn K (.ref qW) "watched" = some none)
 (nW_reached:PySem.W.findIn K (.ref qW) "reached" = some none)
 (aWI:PySem.W.findIn K (.ref qW) "__init__" = some (some (.ref fWI)))
 (lWI:K.lookup fWI=some ⟨ocWI,odWI,.func (PySem.W.fnOf "__init__" "Looker.__init__" (defArgs (kkM 0)) (defBody (kkM 0)) (defScope (kkM 0)) .none kVWI dcWI pmWI anWI cdWI ctWI),slWI⟩)
 (cWI:PySem.W.codeIn K cdWI "Looker.__init__" = true)
 (kWI:PySem.W.keepIn K (.ref fWI)=true)
 (iWI:PySem.W.isFn K (.ref fWI)=true)
 (aMo:PySem.W.findIn K (.ref qW) "more" = some (some (.ref fMo)))
 (iMo:PySem.W.isFn K (.ref fMo)=true)
 (lMo:K.lookup fMo=some ⟨ocMo,odMo,.func (PySem.W.fnOf "more" "Looker.more" (defArgs (kkM 1)) (defBody (kkM 1)) (defScope (kkM 1)) .none kVMo dcMo pmMo anMo cdMo ctMo),slMo⟩)
 (cMo:PySem.W.codeIn K cdMo "Looker.more" = true)
 (kMo:PySem.W.keepIn K (.ref fMo)=true)
 (hkMo:∀ (S:Setting) (x a:Value),PySem.W.peek K S (bindArgs (PySem.W.fnOf "more" "Looker.more" (defArgs (kkM 1)) (defBody (kkM 1)) (defScope (kkM 1)) .none kVMo dcMo pmMo anMo cdMo ctMo) ⟨[x],[("most",a)]⟩)=some ([("self",x),("most",a)]:List (Str×Value)))
 (neKC:qK≠qC)
 (neKG:qK≠qG)
 (neKL:qK≠qL)
 (neKW:qK≠qW)
 (neCG:qC≠qG)
 (neCL:qC≠qL)
 (neCW:qC≠qW)
 (neGL:qG≠qL)
 (neGW:qG≠qW)
 (neLW:qL≠qW) :
 ∃ fd:FuncData,(∀ (s:Shared) (v:Value),BindsTo s fd ⟨[v],[]⟩ [("_law_script",v)])/\∀ base:Heap,K.In base->base.Ns mainGlobals mg->FnOk l.prog w K mg base CX0 12 fa fd ["_law_script"] (spLaw K):=by
 have e:=hfa.symm.trans (PySem.W.mg_of X G aLa)
 cases e
 have T:Txt K mg:=⟨PySem.W.mg_none_of X G z_len,PySem.W.mg_none_of X G z_range,PySem.W.mg_none_of X G z_list,PySem.W.mg_none_of X G z_tuple,PySem.W.mg_none_of X G z_str,PySem.W.mg_none_of X G z_bool,PySem.W.mg_none_of X G z_int,PySem.W.mg_none_of X G z_min,PySem.W.mg_none_of X G z_repr,PySem.W.mg_none_of X G z_all,PySem.W.mg_none_of X G z_any,PySem.W.mg_none_of X G z_isinstance⟩
 have FB:=fun_mk (st:=top 39) lB cB kB
 have bB:=FB.binds (ps:=["_law_script"]) fun _ _ _ _ _ _ us hl=>by obtain ⟨_,rfl⟩:=len1 hl;rfl
 have DB:Def K mg "_law_begin" (top 39) ["_law_script"] fB _:=⟨FB,PySem.W.mg_of X G aB,bB⟩
 have FP:=fun_mk (st:=top 40) lP cP kP
 have bP:=FP.binds (ps:=["_law_d","_law_many"]) fun _ _ _ _ _ _ us hl=>by obtain ⟨_,_,rfl⟩:=len2 hl;rfl
 have DP:Def K mg "_law_pick" (top 40) ["_law_d","_law_many"] fP _:=⟨FP,PySem.W.mg_of X G aP,bP⟩
 have FO:=fun_mk (st:=top 41) lO cO kO
 have bO:=FO.binds (ps:=["_law_d","_law_things"]) fun _ _ _ _ _ _ us hl=>by obtain ⟨_,_,rfl⟩:=len2 hl;rfl
 have DO:Def K mg "_law_of" (top 41) ["_law_d","_law_things"] fO _:=⟨FO,PySem.W.mg_of X G aO,bO⟩
 have FW:=fun_mk (st:=top 42) lW cW kW
 have bW:=FW.binds (ps:=["_law_d"]) fun _ _ _ _ _ _ us hl=>by obtain ⟨_,rfl⟩:=len1 hl;rfl
 have DW:Def K mg "_law_word" (top 42) ["_law_d"] fW _:=⟨FW,PySem.W.mg_of X G aW,bW⟩
 have FWs:=fun_mk (st:=top 43) lWs cWs kWs
 have bWs:=FWs.binds (ps:=["_law_d","_law_many"]) fun _ _ _ _ _ _ us hl=>by obtain ⟨_,_,rfl⟩:=len2 hl;rfl
 have DWs:Def K mg "_law_words" (top 43) ["_law_d","_law_many"] fWs _:=⟨FWs,PySem.W.mg_of X G aWs,bWs⟩
 have FBd:=fun_mk (st:=top 44) lBd cBd kBd
 have bBd:=FBd.binds (ps:=["_law_d"]) fun _ _ _ _ _ _ us hl=>by obtain ⟨_,rfl⟩:=len1 hl;rfl
 have DBd:Def K mg "_law_bound" (top 44) ["_law_d"] fBd _:=⟨FBd,PySem.W.mg_of X G aBd,bBd⟩
 have FFi:=fun_mk (st:=top 45) lFi cFi kFi
 have bFi:=FFi.binds (ps:=["_law_d","_law_many"]) fun _ _ _ _ _ _ us hl=>by obtain ⟨_,_,rfl⟩:=len2 hl;rfl
 have DFi:Def K mg "_law_fields" (top 45) ["_law_d","_law_many"] fFi _:=⟨FFi,PySem.W.mg_of X G aFi,bFi⟩
 have FKs:=fun_mk (st:=top 46) lKs cKs kKs
 have bKs:=FKs.binds (ps:=["_law_d"]) fun _ _ _ _ _ _ us hl=>by obtain ⟨_,rfl⟩:=len1 hl;rfl
 have DKs:Def K mg "_law_kinds_for" (top 46) ["_law_d"] fKs _:=⟨FKs,PySem.W.mg_of X G aKs,bKs⟩
 have FI:=fun_mk (st:=top 16) lI cI kI
 have bI:=FI.binds (ps:=["text"]) fun _ _ _ _ _ _ us hl=>by obtain ⟨_,rfl⟩:=len1 hl;rfl
 have DI:Def K mg "is_name" (top 16) ["text"] fI _:=⟨FI,PySem.W.mg_of X G aI,bI⟩
 have FNn:=fun_mk (st:=top 17) lNn cNn kNn
 have bNn:=FNn.binds (ps:=["text"]) fun _ _ _ _ _ _ us hl=>by obtain ⟨_,rfl⟩:=len1 hl;rfl
 have DNn:Def K mg "need_name" (top 17) ["text"] fNn _:=⟨FNn,PySem.W.mg_of X G aNn,bNn⟩
 have FNf:=fun_mk (st:=top 18) lNf cNf kNf
 have bNf:=FNf.binds (ps:=["fields"]) fun _ _ _ _ _ _ us hl=>by obtain ⟨_,rfl⟩:=len1 hl;rfl
 have DNf:Def K mg "need_fields" (top 18) ["fields"] fNf _:=⟨FNf,PySem.W.mg_of X G aNf,bNf⟩
 have FNp:=fun_mk (st:=top 28) lNp cNp kNp
 have bNp:=FNp.binds (ps:=["pages"]) fun _ _ _ _ _ _ us hl=>by obtain ⟨_,rfl⟩:=len1 hl;rfl
 have DNp:Def K mg "need_pages" (top 28) ["pages"] fNp _:=⟨FNp,PySem.W.mg_of X G aNp,bNp⟩
 have FNr:=fun_mk (st:=top 29) lNr cNr kNr
 have bNr:=FNr.binds (ps:=["room"]) fun _ _ _ _ _ _ us hl=>by obtain ⟨_,rfl⟩:=len1 hl;rfl
 have DNr:Def K mg "need_room" (top 29) ["room"] fNr _:=⟨FNr,PySem.W.mg_of X G aNr,bNr⟩
 have FTf:=fun_mk (st:=top 30) lTf cTf kTf
 have bTf:=FTf.binds (ps:=["events","place"]) fun _ _ _ _ _ _ us hl=>by obtain ⟨_,_,rfl⟩:=len2 hl;rfl
 have DTf:Def K mg "told_from" (top 30) ["events","place"] fTf _:=⟨FTf,PySem.W.mg_of X G aTf,bTf⟩
 have FPb:=fun_mk (st:=top 31) lPb cPb kPb
 have bPb:=FPb.binds (ps:=["place","told"]) fun _ _ _ _ _ _ us hl=>by obtain ⟨_,_,rfl⟩:=len2 hl;rfl
 have DPb:Def K mg "place_behind" (top 31) ["place","told"] fPb _:=⟨FPb,PySem.W.mg_of X G aPb,bPb⟩
 have FNu:=fun_mk (st:=top 47) lNu cNu kNu
 have bNu:=FNu.binds (ps:=["_law_found"]) fun _ _ _ _ _ _ us hl=>by obtain ⟨_,rfl⟩:=len1 hl;rfl
 have DNu:Def K mg "_law_num" (top 47) ["_law_found"] fNu _:=⟨FNu,PySem.W.mg_of X G aNu,bNu⟩
 have FLa:=fun_mk (st:=top 48) lLa cLa kLa
 have FKI:FunD K "__init__" "Kind.__init__" (kM 0) (.ref TdK) fKI _:=⟨⟨_,_,_,_,_,_,_,_,_,rfl,lKI,cKI⟩,kKI⟩
 have bKI:=FKI.binds (ps:=["self","name","fields"]) (ds:=[]) lTK rfl fun kV doc pm an cdv ct s us hT hl=>bindInit rfl kV doc pm an cdv ct s us hT hl
 have MkK:Mk K qK fKI:=⟨mkK,aKI,iKI,kcK⟩
 have FLo0:=fun_mk (st:=kM 1) lLo0 cLo0 kLo0
 have bLo0:=FLo0.binds (ps:=["self"]) fun _ _ _ _ _ _ us hl=>by obtain ⟨_,rfl⟩:=len1 hl;rfl
 have MLo0:MD K qK "lowest" "Kind.lowest" (kM 1) ["self"] fLo0 _:=⟨⟨aLo0,iLo0,kLo0⟩,FLo0,bLo0⟩
 have FCe:=fun_mk (st:=kM 2) lCe cCe kCe
 have bCe:=FCe.binds (ps:=["self"]) fun _ _ _ _ _ _ us hl=>by obtain ⟨_,rfl⟩:=len1 hl;rfl
 have MCe:MD K qK "cells" "Kind.cells" (kM 2) ["self"] fCe _:=⟨⟨aCe,iCe,kCe⟩,FCe,bCe⟩
 have FCI:=fun_mk (st:=cM 0) lCI cCI kCI
 have bCI:=FCI.binds (ps:=["self","ticket","time","kind"]) fun _ _ _ _ _ _ us hl=>by obtain ⟨_,_,_,_,rfl⟩:=len4 hl;rfl
 have MkC:Mk K qC fCI:=⟨mkC,aCI,iCI,kcC⟩
 have FTa:=fun_mk (st:=cM 1) lTa cTa kTa
 have bTa:=FTa.binds (ps:=["self","place"]) fun _ _ _ _ _ _ us hl=>by obtain ⟨_,_,rfl⟩:=len2 hl;rfl
 have MTa:MD K qC "told_at" "Claim.told_at" (cM 1) ["self","place"] fTa _:=⟨⟨aTa,iTa,kTa⟩,FTa,bTa⟩
 have FGI:=fun_mk (st:=gM 0) lGI cGI kGI
 have bGI:=FGI.binds (ps:=["self"]) fun _ _ _ _ _ _ us hl=>by obtain ⟨_,rfl⟩:=len1 hl;rfl
 have MkG:Mk K qG fGI:=⟨mkG,aGI,iGI,kcG⟩
 have FUn:=fun_mk (st:=gM 1) lUn cUn kUn
 have bUn:=FUn.binds (ps:=["self"]) fun _ _ _ _ _ _ us hl=>by obtain ⟨_,rfl⟩:=len1 hl;rfl
 have MUn:MD K qG "unclosed" "Page.unclosed" (gM 1) ["self"] fUn _:=⟨⟨aUn,iUn,kUn⟩,FUn,bUn⟩
 have FWo:=fun_mk (st:=gM 2) lWo cWo kWo
 have bWo:=FWo.binds (ps:=["self","ticket"]) fun _ _ _ _ _ _ us hl=>by obtain ⟨_,_,rfl⟩:=len2 hl;rfl
 have MWo:MD K qG "without" "Page.without" (gM 2) ["self","ticket"] fWo _:=⟨⟨aWo,iWo,kWo⟩,FWo,bWo⟩
 have FLI:=fun_mk (st:=lM 0) lLI cLI kLI
 have MkL:Mk K qL fLI:=⟨mkL,aLI,iLI,kcL⟩
 have FCm:=fun_mk (st:=lM 1) lCm cCm kCm
 have bCm:=FCm.binds (ps:=["self","kind","time"]) fun _ _ _ _ _ _ us hl=>by obtain ⟨_,_,_,rfl⟩:=len3 hl;rfl
 have MCm:MD K qL "claim" "Lane.claim" (lM 1) ["self","kind","time"] fCm _:=⟨⟨aCm,iCm,kCm⟩,FCm,bCm⟩
 have FMr:=fun_mk (st:=lM 2) lMr cMr kMr
 have bMr:=FMr.binds (ps:=["self","cells"]) fun _ _ _ _ _ _ us hl=>by obtain ⟨_,_,rfl⟩:=len2 hl;rfl
 have MMr:MD K qL "make_room" "Lane.make_room" (lM 2) ["self","cells"] fMr _:=⟨⟨aMr,iMr,kMr⟩,FMr,bMr⟩
 have FEl:=fun_mk (st:=lM 3) lEl cEl kEl
 have bEl:=FEl.binds (ps:=["self"]) fun _ _ _ _ _ _ us hl=>by obtain ⟨_,rfl⟩:=len1 hl;rfl
 have MEl:MD K qL "eldest" "Lane.eldest" (lM 3) ["self"] fEl _:=⟨⟨aEl,iEl,kEl⟩,FEl,bEl⟩
 have FLe:=fun_mk (st:=lM 4) lLe cLe kLe
 have bLe:=FLe.binds (ps:=["self"]) fun _ _ _ _ _ _ us hl=>by obtain ⟨_,rfl⟩:=len1 hl;rfl
 have MLe:MD K qL "lose_eldest" "Lane.lose_eldest" (lM 4) ["self"] fLe _:=⟨⟨aLe,iLe,kLe⟩,FLe,bLe⟩
 have FLv:=fun_mk (st:=lM 5) lLv cLv kLv
 have bLv:=FLv.binds (ps:=["self","number"]) fun _ _ _ _ _ _ us hl=>by obtain ⟨_,_,rfl⟩:=len2 hl;rfl
 have MLv:MD K qL "leave" "Lane.leave" (lM 5) ["self","number"] fLv _:=⟨⟨aLv,iLv,kLv⟩,FLv,bLv⟩
 have FWt:=fun_mk (st:=lM 6) lWt cWt kWt
 have bWt:=FWt.binds (ps:=["self"]) fun _ _ _ _ _ _ us hl=>by obtain ⟨_,rfl⟩:=len1 hl;rfl
 have MWt:MD K qL "waiting" "Lane.waiting" (lM 6) ["self"] fWt _:=⟨⟨aWt,iWt,kWt⟩,FWt,bWt⟩
 have FWw:=fun_mk (st:=lM 7) lWw cWw kWw
 have bWw:=FWw.binds (ps:=["self","ticket"]) fun _ _ _ _ _ _ us hl=>by obtain ⟨_,_,rfl⟩:=len2 hl;rfl
 have MWw:MD K qL "waiting_with" "Lane.waiting_with" (lM 7) ["self","ticket"] fWw _:=⟨⟨aWw,iWw,kWw⟩,FWw,bWw⟩
 have FLw:=fun_mk (st:=lM 8) lLw cLw kLw
 have bLw:=FLw.binds (ps:=["self","ticket"]) fun _ _ _ _ _ _ us hl=>by obtain ⟨_,_,rfl⟩:=len2 hl;rfl
 have MLw:MD K qL "last_waiting" "Lane.last_waiting" (lM 8) ["self","ticket"] fLw _:=⟨⟨aLw,iLw,kLw⟩,FLw,bLw⟩
 have FGv:=fun_mk (st:=lM 10) lGv cGv kGv
 have bGv:=FGv.binds (ps:=["self","ticket"]) fun _ _ _ _ _ _ us hl=>by obtain ⟨_,_,rfl⟩:=len2 hl;rfl
 have MGv:MD K qL "give" "Lane.give" (lM 10) ["self","ticket"] fGv _:=⟨⟨aGv,iGv,kGv⟩,FGv,bGv⟩
 have FSd:=fun_mk (st:=lM 12) lSd cSd kSd
 have bSd:=FSd.binds (ps:=["self"]) fun _ _ _ _ _ _ us hl=>by obtain ⟨_,rfl⟩:=len1 hl;rfl
 have MSd:MD K qL "standing" "Lane.standing" (lM 12) ["self"] fSd _:=⟨⟨aSd,iSd,kSd⟩,FSd,bSd⟩
 have FLk:=fun_mk (st:=lM 13) lLk cLk kLk
 have bLk:=FLk.binds (ps:=["self"]) fun _ _ _ _ _ _ us hl=>by obtain ⟨_,rfl⟩:=len1 hl;rfl
 have MLk:MD K qL "look" "Lane.look" (lM 13) ["self"] fLk _:=⟨⟨aLk,iLk,kLk⟩,FLk,bLk⟩
 have FTk:=fun_mk (st:=lM 14) lTk cTk kTk
 have bTk:=FTk.binds (ps:=["self"]) fun _ _ _ _ _ _ us hl=>by obtain ⟨_,rfl⟩:=len1 hl;rfl
 have MTk:MD K qL "take" "Lane.take" (lM 14) ["self"] fTk _:=⟨⟨aTk,iTk,kTk⟩,FTk,bTk⟩
 have FHo:=fun_mk (st:=lM 15) lHo cHo kHo
 have bHo:=FHo.binds (ps:=["self","place"]) fun _ _ _ _ _ _ us hl=>by obtain ⟨_,_,rfl⟩:=len2 hl;rfl
 have MHo:MD K qL "hold" "Lane.hold" (lM 15) ["self","place"] fHo _:=⟨⟨aHo,iHo,kHo⟩,FHo,bHo⟩
 have FTh:=fun_mk (st:=lM 11) lTh cTh kTh
 have bTh:=FTh.binds (ps:=["self","ticket"]) fun _ _ _ _ _ _ us hl=>by obtain ⟨_,_,rfl⟩:=len2 hl;rfl
 have MTh:MD K qL "throw" "Lane.throw" (lM 11) ["self","ticket"] fTh _:=⟨⟨aTh,iTh,kTh⟩,FTh,bTh⟩
 have FCo:=fun_mk (st:=lM 19) lCo cCo kCo
 have bCo:=FCo.binds (ps:=["self"]) fun _ _ _ _ _ _ us hl=>by obtain ⟨_,rfl⟩:=len1 hl;rfl
 have MCo:MD K qL "counts" "Lane.counts" (lM 19) ["self"] fCo _:=⟨⟨aCo,iCo,kCo⟩,FCo,bCo⟩
 have FWI:=fun_mk (st:=kkM 0) lWI cWI kWI
 have bWI:=FWI.binds (ps:=["self","lane"]) fun _ _ _ _ _ _ us hl=>by obtain ⟨_,_,rfl⟩:=len2 hl;rfl
 have MkW:Mk K qW fWI:=⟨mkW,aWI,iWI,kcW⟩
 have TK':TxtK mg:=⟨⟨_,PySem.W.mg_of X G i_MOST_LETTERS⟩,⟨_,PySem.W.mg_of X G i_MOST_FIELDS⟩,⟨_,PySem.W.mg_of X G i_LIMIT⟩⟩
 have TL:TxtL mg:=⟨⟨_,PySem.W.mg_of X G i_FEWEST_PAGES⟩,⟨_,PySem.W.mg_of X G i_MOST_PAGES⟩,⟨_,PySem.W.mg_of X G i_LEAST_ROOM⟩,⟨_,PySem.W.mg_of X G i_MOST_ROOM⟩⟩
 have KC:KCls K mg qK:=⟨⟨pgK,hdK,poK,saK⟩,nK_name,nK_fields,PySem.W.mg_of X G a_qK⟩
 have L:LZ K mg ⟨qK,qC,qG,qL⟩:=⟨⟨neKC,neKG,neKL,neCG,neCL,neGL⟩,KC,⟨pgC,hdC,poC,saC⟩,PySem.W.mg_of X G a_qC,nC_ticket,nC_time,nC_form,nC_filled,nC_given,⟨pgG,hdG,poG,saG⟩,PySem.W.mg_of X G a_qG,nG_claims,nG_used,nG_gone,⟨pgL,hdL,poL,saL⟩,PySem.W.mg_of X G a_qL,nL_most,nL_room,nL_over,nL_pages,nL_held,nL_told,nL_last_time,nL_tickets,nL_given_in,nL_thrown_back,nL_lost,nL_missed⟩
 have kbL:KBinds K _ ["self","pages","room","over"] ["pages","room","over"] gL gVL:=kb_lane hkL
 have GKI:∀ base:Heap,FnOk l.prog w K mg base CX0 4 fKI _ ["self","name","fields"] (spInit qK):=fun base=>ok_init FKI T TK' KC DI DNn DNf
 have GCI:∀ base:Heap,FnOk l.prog w K mg base CX0 6 fCI _ ["self","ticket","time","kind"] (spCI ⟨qK,qC,qG,qL⟩):=fun base=>ok_ci FCI L MkK (GKI base) bKI MLo0 (ok_lowest FLo0 T KC)
 have GLo:∀ base:Heap,FnOk l.prog w K mg base CX0 2 fLe _ ["self"] (spLo ⟨qK,qC,qG,qL⟩):=fun base=>ok_lo FLe T L MEl MLv
 have GMr:∀ base:Heap,FnOk l.prog w K mg base CX0 3 fMr _ ["self","cells"] (spMr ⟨qK,qC,qG,qL⟩):=fun base=>ok_mr FMr T L MEl MUn MLe (GLo base) MkG FGI bGI
 have GCm:∀ base:Heap,FnOk l.prog w K mg base CX0 8 fCm _ ["self","kind","time"] (spCm ⟨qK,qC,qG,qL⟩):=fun base=>ok_cm FCm T L MMr (GMr base) MCe MkC (GCI base) bCI
 have GWt:∀ base:Heap,FnOk l.prog w K mg base CX0 2 fWt _ ["self"] (spWt ⟨qK,qC,qG,qL⟩):=fun base=>ok_wt FWt L MUn
 have GLw:∀ base:Heap,FnOk l.prog w K mg base CX0 4 fLw _ ["self","ticket"] (spLw ⟨qK,qC,qG,qL⟩):=fun base=>ok_lw FLw L MWt (GWt base) MWw (ok_ww FWw L MWt (GWt base))
 have GLk:∀ base:Heap,FnOk l.prog w K mg base CX0 3 fLk _ ["self"] (spLk ⟨qK,qC,qG,qL⟩):=fun base=>ok_lk FLk L MSd (ok_sd FSd L MTa) DTf
 have GTk:∀ base:Heap,FnOk l.prog w K mg base CX0 4 fTk _ ["self"] (spTk ⟨qK,qC,qG,qL⟩):=fun base=>ok_tk FTk T L MLk (GLk base) MHo (ok_ho FHo T L MLv) DPb
 have LK:LkZ K mg qW:=⟨⟨pgW,hdW,poW,saW⟩,PySem.W.mg_of X G a_qW,nW_watched,nW_reached⟩
 have LN:LkNe ⟨qK,qC,qG,qL⟩ qW:=⟨neKW.symm,neCW.symm,neGW.symm,neLW.symm⟩
 have FMo:=fun_mk (st:=kkM 1) lMo cMo kMo
 have kbM:KBinds K _ ["self","most"] ["most"] gM' gVM:=kb_more hkMo
 exact ⟨PySem.W.fnOf "law" "law" (defArgs (top 48)) (defBody (top 48)) (defScope (top 48)) .none kVLa dcLa pmLa anLa cdLa ctLa,fun s v=>.of_eq rfl,fun base _ _=>ok_law FLa T L LK LN DB DP DO DKs (ok_ks FKs T DP DO DW DWs DFi DBd) DNu MkK (GKI base) bKI MkL (ok_li FLI L TL DNp DNr MkG FGI bGI) kbL MkW (ok_lki FWI LK) bWI ⟨aMo,iMo,kMo⟩ (ok_mo FMo LK L MSd (ok_sd FSd L MTa) DTf DPb) kbM MCm (GCm base) MTk (GTk base) MGv (ok_gv FGv L MLw (GLw base)) MTh (ok_th FTh T L MLw (GLw base) MCe MWo) MCo (ok_co FCo L)⟩
end Cm
open PySem PySem.W PyProof.Rows
set_option maxRecDepth 100000 in
set_option maxHeartbeats 0 in
theorem PySem.Challenge.cw_lanescribe_k17_whole_readers_stop_no_wri_holds : PySem.Challenge.rw_lanescribe_k17_whole_readers_stop_no_wri.Holds := by
 w_on
 refine Kd.head ?hw (by rfl) (by rfl) (by rfl) ?hc
 (case hw=>w_witness2)
 k_fill
 refine L2.walk_of (l:=PySem.Challenge.rw_lanescribe_k17_whole_readers_stop_no_wri) (n:=63) (k:=12) (x:="_law_script") (CX:=fun _=>L2.CX0) (sp:=fun w=>Cm.spLaw _) rfl (by decide) rfl ⟨rfl,by decide,by decide,rfl⟩ (fun w h Y=>PySem.W.kIn_of Y) ?F (fun _ _ a ns hl _ hS=>⟨a,ns,rfl,hS,hl,fun _=>rfl⟩) fun _ _ _ _ _ z=>z
 case F=>
  intro w mg fa h KX G hmg
  refine' Cm.all_mk KX G hmg ?aB ?lB ?cB ?kB ?aP ?lP ?cP ?kP ?aO ?lO ?cO ?kO ?aW ?lW ?cW ?kW ?aWs ?lWs ?cWs ?kWs ?aBd ?lBd ?cBd ?kBd ?aFi ?lFi ?cFi ?kFi ?aKs ?lKs ?cKs ?kKs ?aI ?lI ?cI ?kI ?aNn ?lNn ?cNn ?kNn ?aNf ?lNf ?cNf ?kNf ?aNp ?lNp ?cNp ?kNp ?aNr ?lNr ?cNr ?kNr ?aTf ?lTf ?cTf ?kTf ?aPb ?lPb ?cPb ?kPb ?aNu ?lNu ?cNu ?kNu ?aLa ?lLa ?cLa ?kLa ?z_len ?z_range ?z_list ?z_tuple ?z_str ?z_bool ?z_int ?z_min ?z_repr ?z_all ?z_any ?z_isinstance ?i_MOST_LETTERS ?i_MOST_FIELDS ?i_LIMIT ?i_FEWEST_PAGES ?i_MOST_PAGES ?i_LEAST_ROOM ?i_MOST_ROOM ?a_qK ?pgK ?hdK ?poK ?saK ?mkK ?kcK ?nK_name ?nK_fields ?aKI ?lKI ?cKI ?kKI ?iKI ?lTK ?aLo0 ?iLo0 ?lLo0 ?cLo0 ?kLo0 ?aCe ?iCe ?lCe ?cCe ?kCe ?a_qC ?pgC ?hdC ?poC ?saC ?mkC ?kcC ?nC_ticket ?nC_time ?nC_form ?nC_filled ?nC_given ?aCI ?lCI ?cCI ?kCI ?iCI ?aTa ?iTa ?lTa ?cTa ?kTa ?a_qG ?pgG ?hdG ?poG ?saG ?mkG ?kcG ?nG_claims ?nG_used ?nG_gone ?aGI ?lGI ?cGI ?kGI ?iGI ?aUn ?iUn ?lUn ?cUn ?kUn ?aWo ?iWo ?lWo ?cWo ?kWo ?a_qL ?pgL ?hdL ?poL ?saL ?mkL ?kcL ?nL_most ?nL_room ?nL_over ?nL_pages ?nL_held ?nL_told ?nL_last_time ?nL_tickets ?nL_given_in ?nL_thrown_back ?nL_lost ?nL_missed ?aLI ?lLI ?cLI ?kLI ?iLI ?hkL ?aCm ?iCm ?lCm ?cCm ?kCm ?aMr ?iMr ?lMr ?cMr ?kMr ?aEl ?iEl ?lEl ?cEl ?kEl ?aLe ?iLe ?lLe ?cLe ?kLe ?aLv ?iLv ?lLv ?cLv ?kLv ?aWt ?iWt ?lWt ?cWt ?kWt ?aWw ?iWw ?lWw ?cWw ?kWw ?aLw ?iLw ?lLw ?cLw ?kLw ?aGv ?iGv ?lGv ?cGv ?kGv ?aSd ?iSd ?lSd ?cSd ?kSd ?aLk ?iLk ?lLk ?cLk ?kLk ?aTk ?iTk ?lTk ?cTk ?kTk ?aHo ?iHo ?lHo ?cHo ?kHo ?aTh ?iTh ?lTh ?cTh ?kTh ?aCo ?iCo ?lCo ?cCo ?kCo ?a_qW ?pgW ?hdW ?poW ?saW ?mkW ?kcW ?nW_watched ?nW_reached ?aWI ?lWI ?cWI ?kWI ?iWI ?aMo ?iMo ?lMo ?cMo ?kMo ?hkMo ?neKC ?neKG ?neKL ?neKW ?neCG ?neCL ?neCW ?neGL ?neGW ?neLW
  (case aB=>k_is)
  (case lB=>k_is)
  (case cB=>k_is)
  (case kB=>k_is)
  (case aP=>k_is)
  (case lP=>k_is)
  (case cP=>k_is)
  (case kP=>k_is)
  (case aO=>k_is)
  (case lO=>k_is)
  (case cO=>k_is)
  (case kO=>k_is)
  (case aW=>k_is)
  (case lW=>k_is)
  (case cW=>k_is)
  (case kW=>k_is)
  (case aWs=>k_is)
  (case lWs=>k_is)
  (case cWs=>k_is)
  (case kWs=>k_is)
  (case aBd=>k_is)
  (case lBd=>k_is)
  (case cBd=>k_is)
  (case kBd=>k_is)
  (case aFi=>k_is)
  (case lFi=>k_is)
  (case cFi=>k_is)
  (case kFi=>k_is)
  (case aKs=>k_is)
  (case lKs=>k_is)
  (case cKs=>k_is)
  (case kKs=>k_is)
  (case aI=>k_is)
  (case lI=>k_is)
  (case cI=>k_is)
  (case kI=>k_is)
  (case aNn=>k_is)
  (case lNn=>k_is)
  (case cNn=>k_is)
  (case kNn=>k_is)
  (case aNf=>k_is)
  (case lNf=>k_is)
  (case cNf=>k_is)
  (case kNf=>k_is)
  (case aNp=>k_is)
  (case lNp=>k_is)
  (case cNp=>k_is)
  (case kNp=>k_is)
  (case aNr=>k_is)
  (case lNr=>k_is)
  (case cNr=>k_is)
  (case kNr=>k_is)
  (case aTf=>k_is)
  (case lTf=>k_is)
  (case cTf=>k_is)
  (case kTf=>k_is)
  (case aPb=>k_is)
  (case lPb=>k_is)
  (case cPb=>k_is)
  (case kPb=>k_is)
  (case aNu=>k_is)
  (case lNu=>k_is)
  (case cNu=>k_is)
  (case kNu=>k_is)
  (case aLa=>k_is)
  (case lLa=>k_is)
  (case cLa=>k_is)
  (case kLa=>k_is)
  (case z_len=>k_is)
  (case z_range=>k_is)
  (case z_list=>k_is)
  (case z_tuple=>k_is)
  (case z_str=>k_is)
  (case z_bool=>k_is)
  (case z_int=>k_is)
  (case z_min=>k_is)
  (case z_repr=>k_is)
  (case z_all=>k_is)
  (case z_any=>k_is)
  (case z_isinstance=>k_is)
  (case i_MOST_LETTERS=>k_is)
  (case i_MOST_FIELDS=>k_is)
  (case i_LIMIT=>k_is)
  (case i_FEWEST_PAGES=>k_is)
  (case i_MOST_PAGES=>k_is)
  (case i_LEAST_ROOM=>k_is)
  (case i_MOST_ROOM=>k_is)
  (case a_qK=>k_is)
  (case pgK=>k_is)
  (case hdK=>k_is)
  (case poK=>k_is)
  (case saK=>k_is)
  (case mkK=>k_is)
  (case kcK=>k_is)
  (case nK_name=>k_is)
  (case nK_fields=>k_is)
  (case aKI=>k_is)
  (case lKI=>k_is)
  (case cKI=>k_is)
  (case kKI=>k_is)
  (case iKI=>k_is)
  (case lTK=>k_is)
  (case aLo0=>k_is)
  (case iLo0=>k_is)
  (case lLo0=>k_is)
  (case cLo0=>k_is)
  (case kLo0=>k_is)
  (case aCe=>k_is)
  (case iCe=>k_is)
  (case lCe=>k_is)
  (case cCe=>k_is)
  (case kCe=>k_is)
  (case a_qC=>k_is)
  (case pgC=>k_is)
  (case hdC=>k_is)
  (case poC=>k_is)
  (case saC=>k_is)
  (case mkC=>k_is)
  (case kcC=>k_is)
  (case nC_ticket=>k_is)
  (case nC_time=>k_is)
  (case nC_form=>k_is)
  (case nC_filled=>k_is)
  (case nC_given=>k_is)
  (case aCI=>k_is)
  (case lCI=>k_is)
  (case cCI=>k_is)
  (case kCI=>k_is)
  (case iCI=>k_is)
  (case aTa=>k_is)
  (case iTa=>k_is)
  (case lTa=>k_is)
  (case cTa=>k_is)
  (case kTa=>k_is)
  (case a_qG=>k_is)
  (case pgG=>k_is)
  (case hdG=>k_is)
  (case poG=>k_is)
  (case saG=>k_is)
  (case mkG=>k_is)
  (case kcG=>k_is)
  (case nG_claims=>k_is)
  (case nG_used=>k_is)
  (case nG_gone=>k_is)
  (case aGI=>k_is)
  (case lGI=>k_is)
  (case cGI=>k_is)
  (case kGI=>k_is)
  (case iGI=>k_is)
  (case aUn=>k_is)
  (case iUn=>k_is)
  (case lUn=>k_is)
  (case cUn=>k_is)
  (case kUn=>k_is)
  (case aWo=>k_is)
  (case iWo=>k_is)
  (case lWo=>k_is)
  (case cWo=>k_is)
  (case kWo=>k_is)
  (case a_qL=>k_is)
  (case pgL=>k_is)
  (case hdL=>k_is)
  (case poL=>k_is)
  (case saL=>k_is)
  (case mkL=>k_is)
  (case kcL=>k_is)
  (case nL_most=>k_is)
  (case nL_room=>k_is)
  (case nL_over=>k_is)
  (case nL_pages=>k_is)
  (case nL_held=>k_is)
  (case nL_told=>k_is)
  (case nL_last_time=>k_is)
  (case nL_tickets=>k_is)
  (case nL_given_in=>k_is)
  (case nL_thrown_back=>k_is)
  (case nL_lost=>k_is)
  (case nL_missed=>k_is)
  (case aLI=>k_is)
  (case lLI=>k_is)
  (case cLI=>k_is)
  (case kLI=>k_is)
  (case iLI=>k_is)
  (case hkL=>intros;kernel_rfl)
  (case aCm=>k_is)
  (case iCm=>k_is)
  (case lCm=>k_is)
  (case cCm=>k_is)
  (case kCm=>k_is)
  (case aMr=>k_is)
  (case iMr=>k_is)
  (case lMr=>k_is)
  (case cMr=>k_is)
  (case kMr=>k_is)
  (case aEl=>k_is)
  (case iEl=>k_is)
  (case lEl=>k_is)
  (case cEl=>k_is)
  (case kEl=>k_is)
  (case aLe=>k_is)
  (case iLe=>k_is)
  (case lLe=>k_is)
  (case cLe=>k_is)
  (case kLe=>k_is)
  (case aLv=>k_is)
  (case iLv=>k_is)
  (case lLv=>k_is)
  (case cLv=>k_is)
  (case kLv=>k_is)
  (case aWt=>k_is)
  (case iWt=>k_is)
  (case lWt=>k_is)
  (case cWt=>k_is)
  (case kWt=>k_is)
  (case aWw=>k_is)
  (case iWw=>k_is)
  (case lWw=>k_is)
  (case cWw=>k_is)
  (case kWw=>k_is)
  (case aLw=>k_is)
  (case iLw=>k_is)
  (case lLw=>k_is)
  (case cLw=>k_is)
  (case kLw=>k_is)
  (case aGv=>k_is)
  (case iGv=>k_is)
  (case lGv=>k_is)
  (case cGv=>k_is)
  (case kGv=>k_is)
  (case aSd=>k_is)
  (case iSd=>k_is)
  (case lSd=>k_is)
  (case cSd=>k_is)
  (case kSd=>k_is)
  (case aLk=>k_is)
  (case iLk=>k_is)
  (case lLk=>k_is)
  (case cLk=>k_is)
  (case kLk=>k_is)
  (case aTk=>k_is)
  (case iTk=>k_is)
  (case lTk=>k_is)
  (case cTk=>k_is)
  (case kTk=>k_is)
  (case aHo=>k_is)
  (case iHo=>k_is)
  (case lHo=>k_is)
  (case cHo=>k_is)
  (case kHo=>k_is)
  (case aTh=>k_is)
  (case iTh=>k_is)
  (case lTh=>k_is)
  (case cTh=>k_is)
  (case kTh=>k_is)
  (case aCo=>k_is)
  (case iCo=>k_is)
  (case lCo=>k_is)
  (case cCo=>k_is)
  (case kCo=>k_is)
  (case a_qW=>k_is)
  (case pgW=>k_is)
  (case hdW=>k_is)
  (case poW=>k_is)
  (case saW=>k_is)
  (case mkW=>k_is)
  (case kcW=>k_is)
  (case nW_watched=>k_is)
  (case nW_reached=>k_is)
  (case aWI=>k_is)
  (case lWI=>k_is)
  (case cWI=>k_is)
  (case kWI=>k_is)
  (case iWI=>k_is)
  (case aMo=>k_is)
  (case iMo=>k_is)
  (case lMo=>k_is)
  (case cMo=>k_is)
  (case kMo=>k_is)
  (case hkMo=>intros;kernel_rfl)
  (case neKC=>decide)
  (case neKG=>decide)
  (case neKL=>decide)
  (case neKW=>decide)
  (case neCG=>decide)
  (case neCL=>decide)
  (case neCW=>decide)
  (case neGL=>decide)
  (case neGW=>decide)
  (case neLW=>decide)
