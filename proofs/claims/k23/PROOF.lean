import PyProof.Rows.All
import Wide.All
import OpenK.AllK
import Wide.FinOn
import KE.KNestM
import Lean
import PyProof.EqAt
import PyProof.EqKinds
import PyProof.TupleCall
import PyProof.StationsW
import PyProof.ExcBaseAll.ValueError
import PyProof.InstStoreFacts
import PyProof.RulesAs
import PyProof.RulesDel
import KE.KLam
import PyProof.ExcArgsOwn
import PyProof.AutoListH
import PyProof.StrWalks
import PyProof.StrBlockH
import PyProof.WalkInts
import PyProof.SeqI3
import PyProof.Rows.SetFrom
import PyProof.ZipIter
import KE.KTabLook
import PyProof.StrLaws
import KE.KIntText
import KE.KStrOpen
import PyProof.StrLawsTight
import PyProof.Rows.StrFit
import PyProof.Draws
import PyProof.EnumMake
import PyProof.StrCalls2
import PyProof.Rows.StrSplitJoin
import PyProof.CollectIter
import PyProof.StrBlock2
import PyProof.Rows.SortWalk
import PyProof.Rows.CallKwBuiltin
import KE.KMinBuiltin
import KE.KRevSl
import PyProof.DictItemsLoops
import PyProof.CollectWalk
import PySem.Challenge.RW_lanescribe_k23_tallies_refused
set_option Elab.async false
set_option linter.all false
set_option maxRecDepth 1000000
set_option maxHeartbeats 0
namespace Kd
open PySem PySem.W
noncomputable section
theorem left_boot {p q:Program} {loose:List Str} {Xt:Shared->Bool} {α:Type} {Yf:Shared->α} {Ya:World->α} {N:Nat} (e:opening p=plainProg p.main.scope.names) (hN:Nat.ble 600 N=true) (f:∀ s,fenceModules? p s=some s)
 (h:∀ (w:World) (os:OsState),(topFrom treeTable p w N ⟨boot_heap w.params,Array.mk [],boot_drawn,boot_toks,os⟩).map (fun s=>(openSeen q loose (importedModules p.main.body) Xt true s,Yf s))=some (openGood q loose,Ya w)):LeftO p q loose Xt Yf Ya N:=fun w=>by
 obtain ⟨⟨h',gs,d,k,os⟩,e1,e2⟩:=Option.map_eq_some_iff.mp (boot_open e hN f w)
 obtain ⟨rfl,rfl,rfl,rfl⟩:h'=boot_heap w.params/\gs=Array.mk []/\d=boot_drawn/\k=boot_toks:=by simpa using e2
 unfold openEnds
 rw [e1]
 exact h w os
abbrev u (x:String):Str:=Str.ofString x
abbrev vs (x:String) (t:Nat):Value:=.str (Str.ofString x) t
abbrev vi (x:Int) (t:Nat):Value:=.int x t
abbrev vr (x:Nat):Value:=.ref x
abbrev vt (x:String):Value:=.type x
abbrev vn:Value:=.none
abbrev vb:Value:=.bool true
abbrev vf (t:Nat):Value:=.str (Str.ofString "/claim/cut.py") t
abbrev ot (x:Array Value):Obj:={ cls:=.type "tuple",data:=Data.seq x }
abbrev oc (x:Array Value):Obj:={ cls:=.type "code",data:=Data.fields x }
abbrev of (n q:String) (a:Arguments) (b:List Stmt) (s:Scope) (d m c:Value):Obj:={ cls:=.type "function",data:=Data.func { name:=Str.ofString n,qualname:=Str.ofString q,params:=a,body:=FuncBody.stmts b,scope:=s,globals:=3,closure:=[],defaults:=d,kwdefaults:=.none,pyModule:=m,code:=c } }
abbrev de (P:Params) (x:String) (t:Nat) (v:Value):DictEntry:={ hash:=PyData.keyHash P (Str.ofString x),key:=.str (Str.ofString x) t,val:=v }
def tp (i:Nat):Stmt:=PySem.Challenge.pw_lanescribe_k23_tallies_refused.main.body.getD i (.Pass ⟨0,0,0,0⟩)
def meth (i j:Nat):Stmt:=match tp i with
 |.ClassDef _ _ _ body _ _ _ _ _ _ _=>body.getD j (.Pass ⟨0,0,0,0⟩)
 |_=>.Pass ⟨0,0,0,0⟩
def dA (s:Stmt):Arguments:=match s with
 |.FunctionDef _ a _ _ _ _ _ _ _ _=>a
 |_=>{ posonlyargs:=[],args:=[],vararg:=none,kwonlyargs:=[],kw_defaults:=[],kwarg:=none,defaults:=[] }
def dB (s:Stmt):List Stmt:=match s with
 |.FunctionDef _ _ b _ _ _ _ _ _ _=>b
 |_=>[]
def dS (s:Stmt):Scope:=match s with
 |.FunctionDef _ _ _ _ _ _ sc _ _ _=>sc
 |_=>{ kind:=.function,names:=[],isGenerator:=false,isCoroutine:=false }
abbrev TA (i:Nat):Arguments:=dA (tp i)
abbrev TB (i:Nat):List Stmt:=dB (tp i)
abbrev TS (i:Nat):Scope:=dS (tp i)
abbrev MA (i j:Nat):Arguments:=dA (meth i j)
abbrev MB (i j:Nat):List Stmt:=dB (meth i j)
abbrev MS (i j:Nat):Scope:=dS (meth i j)
def KK:Params->Frag:=fun P=>
 (nat_lit 2,{ cls:=vn,data:=Data.dict #[] })::
 (nat_lit 3,{ cls:=vt "dict",data:=Data.dict #[de P "__name__" 165 (vs "law_lanescribe_k23_tallies_refused" 524),de P "__doc__" 166 (vn),de P "__package__" 167 (vn),de P "__loader__" 168 (Value.builtin "__main__.__loader__#opaque"),de P "__spec__" 169 (vn),de P "__annotations__" 170 (vr 6),de P "__builtins__" 171 (vr 4),de P "__file__" 173 (vf 172),de P "__cached__" 174 (vn),de P "_wall" 193 (vr 21),de P "ScribeError" 225 (vr 39),de P "BadTest" 250 (vr 60),de P "BadSize" 275 (vr 80),de P "BadKeys" 300 (vr 100),de P "BadValue" 325 (vr 119),de P "Missing" 355 (vr 139),de P "LIMIT" 359 (vi 999999 358),de P "MOST_LETTERS" 361 (vi 8 360),de P "is_name" 368 (vr 149),de P "MOST_PARTS" 372 (vi 15 371),de P "MOST_DEEP" 374 (vi 5 373),de P "WITHIN" 384 (vr 150),de P "SIGN_OF" 391 (vr 151),de P "is_word" 398 (vr 158),de P "is_number" 405 (vr 165),de P "is_leaf" 413 (vr 172),de P "count_parts" 419 (vr 177),de P "is_test" 426 (vr 184),de P "need_test" 433 (vr 191),de P "MOST_KEYS" 437 (vi 16 436),de P "KEYS_LIMIT" 439 (vi 64 438),de P "MOST_NAMED" 441 (vi 4 440),de P "need_keys" 450 (vr 198),de P "Tally" 523 (vr 251),de P "_law_begin" 534 (vr 262),de P "_law_pick" 545 (vr 269),de P "_law_of" 553 (vr 276),de P "_law_far" 561 (vr 283),de P "_law_same" 567 (vr 288),de P "_law_word" 573 (vr 293),de P "_law_words" 585 (vr 300),de P "_law_is_name" 591 (vr 305),de P "_law_ask" 601 (vr 312),de P "_law_odd_name" 610 (vr 319),de P "_law_number" 617 (vr 326),de P "_law_leaf" 627 (vr 333),de P "_law_tree" 639 (vr 340),de P "_law_parts" 645 (vr 345),de P "_law_deep" 651 (vr 350),de P "_law_test" 661 (vr 357),de P "_law_leaf_ok" 668 (vr 364),de P "_law_shape_ok" 675 (vr 371),de P "_law_test_ok" 682 (vr 378),de P "_law_bent_test" 692 (vr 385),de P "law" 698 (vr 390)] 55 })::
 (nat_lit 15,ot #[])::
 (nat_lit 17,ot #[vs "k" 190])::
 (nat_lit 18,ot #[])::
 (nat_lit 20,oc #[vs "_wall" 187,vs "_wall" 188,vf 189,vi 1 0,vi 1 0,vi 0 0,vi 0 0,vi 3 0,vr 15,vb,vi 181 0,vr 16,vn,vr 17,vr 18,vr 19,vi 191 0,vi 1 0,vf 192])::
 (nat_lit 21,of "_wall" "_wall" (TA 0) (TB 0) (TS 0) vn (vs "__main__" 164) (vr 20))::
 (nat_lit 22,ot #[vt "ValueError"])::
 (nat_lit 29,ot #[vs "" 208,vs "scribeerror" 209])::
 (nat_lit 30,ot #[])::
 (nat_lit 32,ot #[vs "self" 213,vs "words" 214,vs "word" 215])::
 (nat_lit 33,ot #[])::
 (nat_lit 35,oc #[vs "__init__" 210,vs "ScribeError.__init__" 211,vf 212,vi 7 0,vi 3 0,vi 0 0,vi 0 0,vi 3 0,vr 30,vb,vi 181 0,vr 31,vn,vr 32,vr 33,vr 34,vi 216 0,vi 7 0,vf 217])::
 (nat_lit 36,of "__init__" "ScribeError.__init__" (MA 2 0) (MB 2 0) (MS 2 0) (vr 29) (vs "lanescribe.errors" 194) (vr 35))::
 (nat_lit 37,ot #[vs "word" 219])::
 (nat_lit 38,{ cls:=vt "dict",data:=Data.dict #[de P "__module__" 203 (vs "lanescribe.errors" 194),de P "__firstlineno__" 207 (vi 5 206),de P "__init__" 218 (vr 36),de P "__static_attributes__" 220 (vr 37),de P "__weakref__" 222 (vr 40),de P "__doc__" 223 (vn)] 3 })::
 (nat_lit 39,{ cls:=vt "type",data:=Data.cls { name:=u "ScribeError",bases:=[vt "ValueError"],mro:=[vr 39,vt "ValueError",vt "Exception",vt "BaseException",vt "object"],ns:=38,qualname:=u "ScribeError",subclasses:=[vr 60,vr 80,vr 100,vr 119] },slots:=#[some (vr 22),none,some (vs "ScribeError" 196),some (vs "ScribeError" 204),some (Value.builtin "ValueError.__new__"),some (vb)] })::
 (nat_lit 40,{ cls:=vt "getset_descriptor",data:=Data.fields #[vs "__weakref__" 221,vr 39,Value.builtin "ExceptionGroup.__weakref__",vn] })::
 (nat_lit 43,ot #[vr 39])::
 (nat_lit 50,ot #[vs "" 238])::
 (nat_lit 51,ot #[])::
 (nat_lit 53,ot #[vs "self" 242,vs "words" 243])::
 (nat_lit 54,ot #[])::
 (nat_lit 56,oc #[vs "__init__" 239,vs "BadTest.__init__" 240,vf 241,vi 12 0,vi 2 0,vi 0 0,vi 0 0,vi 3 0,vr 51,vb,vi 181 0,vr 52,vn,vr 53,vr 54,vr 55,vi 244 0,vi 12 0,vf 245])::
 (nat_lit 57,of "__init__" "BadTest.__init__" (MA 3 0) (MB 3 0) (MS 3 0) (vr 50) (vs "lanescribe.errors" 194) (vr 56))::
 (nat_lit 58,ot #[])::
 (nat_lit 59,{ cls:=vt "dict",data:=Data.dict #[de P "__module__" 233 (vs "lanescribe.errors" 194),de P "__firstlineno__" 237 (vi 10 236),de P "__init__" 246 (vr 57),de P "__static_attributes__" 247 (vr 58),de P "__doc__" 248 (vn)] 2 })::
 (nat_lit 60,{ cls:=vt "type",data:=Data.cls { name:=u "BadTest",bases:=[vr 39],mro:=[vr 60,vr 39,vt "ValueError",vt "Exception",vt "BaseException",vt "object"],ns:=59,qualname:=u "BadTest" },slots:=#[some (vr 43),none,some (vs "BadTest" 226),some (vs "BadTest" 234),some (Value.builtin "ValueError.__new__"),some (vb)] })::
 (nat_lit 63,ot #[vr 39])::
 (nat_lit 70,ot #[vs "" 263])::
 (nat_lit 71,ot #[])::
 (nat_lit 73,ot #[vs "self" 267,vs "words" 268])::
 (nat_lit 74,ot #[])::
 (nat_lit 76,oc #[vs "__init__" 264,vs "BadSize.__init__" 265,vf 266,vi 16 0,vi 2 0,vi 0 0,vi 0 0,vi 3 0,vr 71,vb,vi 181 0,vr 72,vn,vr 73,vr 74,vr 75,vi 269 0,vi 16 0,vf 270])::
 (nat_lit 77,of "__init__" "BadSize.__init__" (MA 4 0) (MB 4 0) (MS 4 0) (vr 70) (vs "lanescribe.errors" 194) (vr 76))::
 (nat_lit 78,ot #[])::
 (nat_lit 79,{ cls:=vt "dict",data:=Data.dict #[de P "__module__" 258 (vs "lanescribe.errors" 194),de P "__firstlineno__" 262 (vi 14 261),de P "__init__" 271 (vr 77),de P "__static_attributes__" 272 (vr 78),de P "__doc__" 273 (vn)] 2 })::
 (nat_lit 80,{ cls:=vt "type",data:=Data.cls { name:=u "BadSize",bases:=[vr 39],mro:=[vr 80,vr 39,vt "ValueError",vt "Exception",vt "BaseException",vt "object"],ns:=79,qualname:=u "BadSize" },slots:=#[some (vr 63),none,some (vs "BadSize" 251),some (vs "BadSize" 259),some (Value.builtin "ValueError.__new__"),some (vb)] })::
 (nat_lit 83,ot #[vr 39])::
 (nat_lit 90,ot #[vs "" 288])::
 (nat_lit 91,ot #[])::
 (nat_lit 93,ot #[vs "self" 292,vs "words" 293])::
 (nat_lit 94,ot #[])::
 (nat_lit 96,oc #[vs "__init__" 289,vs "BadKeys.__init__" 290,vf 291,vi 20 0,vi 2 0,vi 0 0,vi 0 0,vi 3 0,vr 91,vb,vi 181 0,vr 92,vn,vr 93,vr 94,vr 95,vi 294 0,vi 20 0,vf 295])::
 (nat_lit 97,of "__init__" "BadKeys.__init__" (MA 5 0) (MB 5 0) (MS 5 0) (vr 90) (vs "lanescribe.errors" 194) (vr 96))::
 (nat_lit 98,ot #[])::
 (nat_lit 99,{ cls:=vt "dict",data:=Data.dict #[de P "__module__" 283 (vs "lanescribe.errors" 194),de P "__firstlineno__" 287 (vi 18 286),de P "__init__" 296 (vr 97),de P "__static_attributes__" 297 (vr 98),de P "__doc__" 298 (vn)] 2 })::
 (nat_lit 100,{ cls:=vt "type",data:=Data.cls { name:=u "BadKeys",bases:=[vr 39],mro:=[vr 100,vr 39,vt "ValueError",vt "Exception",vt "BaseException",vt "object"],ns:=99,qualname:=u "BadKeys" },slots:=#[some (vr 83),none,some (vs "BadKeys" 276),some (vs "BadKeys" 284),some (Value.builtin "ValueError.__new__"),some (vb)] })::
 (nat_lit 103,ot #[vr 39])::
 (nat_lit 110,ot #[])::
 (nat_lit 112,ot #[vs "self" 316,vs "at" 317])::
 (nat_lit 113,ot #[])::
 (nat_lit 115,oc #[vs "__init__" 313,vs "BadValue.__init__" 314,vf 315,vi 24 0,vi 2 0,vi 0 0,vi 0 0,vi 3 0,vr 110,vb,vi 181 0,vr 111,vn,vr 112,vr 113,vr 114,vi 318 0,vi 24 0,vf 319])::
 (nat_lit 116,of "__init__" "BadValue.__init__" (MA 6 0) (MB 6 0) (MS 6 0) vn (vs "lanescribe.errors" 194) (vr 115))::
 (nat_lit 117,ot #[vs "at" 321])::
 (nat_lit 118,{ cls:=vt "dict",data:=Data.dict #[de P "__module__" 308 (vs "lanescribe.errors" 194),de P "__firstlineno__" 312 (vi 22 311),de P "__init__" 320 (vr 116),de P "__static_attributes__" 322 (vr 117),de P "__doc__" 323 (vn)] 2 })::
 (nat_lit 119,{ cls:=vt "type",data:=Data.cls { name:=u "BadValue",bases:=[vr 39],mro:=[vr 119,vr 39,vt "ValueError",vt "Exception",vt "BaseException",vt "object"],ns:=118,qualname:=u "BadValue" },slots:=#[some (vr 103),none,some (vs "BadValue" 301),some (vs "BadValue" 309),some (Value.builtin "ValueError.__new__"),some (vb)] })::
 (nat_lit 122,ot #[vt "LookupError"])::
 (nat_lit 129,ot #[vs "" 338,vs "missing" 339])::
 (nat_lit 130,ot #[])::
 (nat_lit 132,ot #[vs "self" 343,vs "words" 344,vs "word" 345])::
 (nat_lit 133,ot #[])::
 (nat_lit 135,oc #[vs "__init__" 340,vs "Missing.__init__" 341,vf 342,vi 29 0,vi 3 0,vi 0 0,vi 0 0,vi 3 0,vr 130,vb,vi 181 0,vr 131,vn,vr 132,vr 133,vr 134,vi 346 0,vi 29 0,vf 347])::
 (nat_lit 136,of "__init__" "Missing.__init__" (MA 7 0) (MB 7 0) (MS 7 0) (vr 129) (vs "lanescribe.errors" 194) (vr 135))::
 (nat_lit 137,ot #[vs "word" 349])::
 (nat_lit 138,{ cls:=vt "dict",data:=Data.dict #[de P "__module__" 333 (vs "lanescribe.errors" 194),de P "__firstlineno__" 337 (vi 27 336),de P "__init__" 348 (vr 136),de P "__static_attributes__" 350 (vr 137),de P "__weakref__" 352 (vr 140),de P "__doc__" 353 (vn)] 3 })::
 (nat_lit 139,{ cls:=vt "type",data:=Data.cls { name:=u "Missing",bases:=[vt "LookupError"],mro:=[vr 139,vt "LookupError",vt "Exception",vt "BaseException",vt "object"],ns:=138,qualname:=u "Missing" },slots:=#[some (vr 122),none,some (vs "Missing" 326),some (vs "Missing" 334),some (Value.builtin "LookupError.__new__"),some (vb)] })::
 (nat_lit 140,{ cls:=vt "getset_descriptor",data:=Data.fields #[vs "__weakref__" 351,vr 139,Value.builtin "ExceptionGroup.__weakref__",vn] })::
 (nat_lit 143,ot #[])::
 (nat_lit 145,ot #[vs "text" 365])::
 (nat_lit 146,ot #[])::
 (nat_lit 148,oc #[vs "is_name" 362,vs "is_name" 363,vf 364,vi 35 0,vi 1 0,vi 0 0,vi 0 0,vi 3 0,vr 143,vb,vi 181 0,vr 144,vn,vr 145,vr 146,vr 147,vi 366 0,vi 35 0,vf 367])::
 (nat_lit 149,of "is_name" "is_name" (TA 11) (TB 11) (TS 11) vn (vs "lanescribe.kinds" 356) (vr 148))::
 (nat_lit 150,{ cls:=vt "dict",data:=Data.dict #[de P "not" 375 (vi 1 376),de P "and" 377 (vi 2 378),de P "or" 379 (vi 2 380)] 3 })::
 (nat_lit 151,{ cls:=vt "dict",data:=Data.dict #[de P "less" 385 (vs "<" 386),de P "same" 387 (vs "=" 388)] 2 })::
 (nat_lit 152,ot #[])::
 (nat_lit 154,ot #[vs "thing" 395])::
 (nat_lit 155,ot #[])::
 (nat_lit 157,oc #[vs "is_word" 392,vs "is_word" 393,vf 394,vi 42 0,vi 1 0,vi 0 0,vi 0 0,vi 3 0,vr 152,vb,vi 181 0,vr 153,vn,vr 154,vr 155,vr 156,vi 396 0,vi 42 0,vf 397])::
 (nat_lit 158,of "is_word" "is_word" (TA 17) (TB 17) (TS 17) vn (vs "lanescribe.sieve" 369) (vr 157))::
 (nat_lit 159,ot #[])::
 (nat_lit 161,ot #[vs "thing" 402])::
 (nat_lit 162,ot #[])::
 (nat_lit 164,oc #[vs "is_number" 399,vs "is_number" 400,vf 401,vi 44 0,vi 1 0,vi 0 0,vi 0 0,vi 3 0,vr 159,vb,vi 181 0,vr 160,vn,vr 161,vr 162,vr 163,vi 403 0,vi 44 0,vf 404])::
 (nat_lit 165,of "is_number" "is_number" (TA 18) (TB 18) (TS 18) vn (vs "lanescribe.sieve" 369) (vr 164))::
 (nat_lit 166,ot #[])::
 (nat_lit 168,ot #[vs "test" 409,vs "form" 410])::
 (nat_lit 169,ot #[])::
 (nat_lit 171,oc #[vs "is_leaf" 406,vs "is_leaf" 407,vf 408,vi 46 0,vi 1 0,vi 0 0,vi 0 0,vi 3 0,vr 166,vb,vi 181 0,vr 167,vn,vr 168,vr 169,vr 170,vi 411 0,vi 46 0,vf 412])::
 (nat_lit 172,of "is_leaf" "is_leaf" (TA 19) (TB 19) (TS 19) vn (vs "lanescribe.sieve" 369) (vr 171))::
 (nat_lit 173,ot #[])::
 (nat_lit 176,oc #[vs "count_parts" 414,vs "count_parts" 415,vf 416,vi 53 0,vi 2 0,vi 0 0,vi 0 0,vi 3 0,vr 173,vb,vi 181 0,vr 174,vn,vn,vn,vr 175,vi 417 0,vi 53 0,vf 418])::
 (nat_lit 177,of "count_parts" "count_parts" (TA 20) (TB 20) (TS 20) vn (vs "lanescribe.sieve" 369) (vr 176))::
 (nat_lit 178,ot #[])::
 (nat_lit 180,ot #[vs "test" 423])::
 (nat_lit 181,ot #[])::
 (nat_lit 183,oc #[vs "is_test" 420,vs "is_test" 421,vf 422,vi 62 0,vi 1 0,vi 0 0,vi 0 0,vi 3 0,vr 178,vb,vi 181 0,vr 179,vn,vr 180,vr 181,vr 182,vi 424 0,vi 62 0,vf 425])::
 (nat_lit 184,of "is_test" "is_test" (TA 21) (TB 21) (TS 21) vn (vs "lanescribe.sieve" 369) (vr 183))::
 (nat_lit 185,ot #[])::
 (nat_lit 187,ot #[vs "test" 430])::
 (nat_lit 188,ot #[])::
 (nat_lit 190,oc #[vs "need_test" 427,vs "need_test" 428,vf 429,vi 64 0,vi 1 0,vi 0 0,vi 0 0,vi 3 0,vr 185,vb,vi 181 0,vr 186,vn,vr 187,vr 188,vr 189,vi 431 0,vi 64 0,vf 432])::
 (nat_lit 191,of "need_test" "need_test" (TA 22) (TB 22) (TS 22) vn (vs "lanescribe.sieve" 369) (vr 190))::
 (nat_lit 192,ot #[])::
 (nat_lit 194,ot #[vs "keys" 445,vs "at" 446,vs "name" 447])::
 (nat_lit 195,ot #[])::
 (nat_lit 197,oc #[vs "need_keys" 442,vs "need_keys" 443,vf 444,vi 71 0,vi 1 0,vi 0 0,vi 0 0,vi 3 0,vr 192,vb,vi 181 0,vr 193,vn,vr 194,vr 195,vr 196,vi 448 0,vi 71 0,vf 449])::
 (nat_lit 198,of "need_keys" "need_keys" (TA 27) (TB 27) (TS 27) vn (vs "lanescribe.tallies" 434) (vr 197))::
 (nat_lit 206,{ cls:=vt "dict",data:=Data.dict #[de P "most" 463 (vi 16 436)] 1 })::
 (nat_lit 207,ot #[])::
 (nat_lit 209,ot #[vs "self" 467,vs "test" 468,vs "keys" 469,vs "most" 470])::
 (nat_lit 210,ot #[])::
 (nat_lit 212,oc #[vs "__init__" 464,vs "Tally.__init__" 465,vf 466,vi 79 0,vi 3 0,vi 0 0,vi 1 0,vi 3 0,vr 207,vb,vi 181 0,vr 208,vn,vr 209,vr 210,vr 211,vi 471 0,vi 79 0,vf 472])::
 (nat_lit 213,{ cls:=vt "function",data:=Data.func { name:=u "__init__",qualname:=u "Tally.__init__",params:=MA 28 0,body:=FuncBody.stmts (MB 28 0),scope:=MS 28 0,globals:=3,closure:=[],defaults:=vn,kwdefaults:=vr 206,pyModule:=vs "lanescribe.tallies" 434,code:=vr 212 } })::
 (nat_lit 214,ot #[])::
 (nat_lit 216,ot #[vs "self" 477,vs "kind" 478,vs "values" 479])::
 (nat_lit 217,ot #[])::
 (nat_lit 219,oc #[vs "note" 474,vs "Tally.note" 475,vf 476,vi 90 0,vi 3 0,vi 0 0,vi 0 0,vi 3 0,vr 214,vb,vi 181 0,vr 215,vn,vr 216,vr 217,vr 218,vi 480 0,vi 90 0,vf 481])::
 (nat_lit 220,of "note" "Tally.note" (MA 28 1) (MB 28 1) (MS 28 1) vn (vs "lanescribe.tallies" 434) (vr 219))::
 (nat_lit 221,ot #[])::
 (nat_lit 223,ot #[vs "self" 486])::
 (nat_lit 224,ot #[])::
 (nat_lit 226,oc #[vs "table" 483,vs "Tally.table" 484,vf 485,vi 93 0,vi 1 0,vi 0 0,vi 0 0,vi 3 0,vr 221,vb,vi 181 0,vr 222,vn,vr 223,vr 224,vr 225,vi 487 0,vi 93 0,vf 488])::
 (nat_lit 227,of "table" "Tally.table" (MA 28 2) (MB 28 2) (MS 28 2) vn (vs "lanescribe.tallies" 434) (vr 226))::
 (nat_lit 228,ot #[])::
 (nat_lit 230,ot #[vs "self" 493])::
 (nat_lit 231,ot #[])::
 (nat_lit 233,oc #[vs "dropped" 490,vs "Tally.dropped" 491,vf 492,vi 96 0,vi 1 0,vi 0 0,vi 0 0,vi 3 0,vr 228,vb,vi 181 0,vr 229,vn,vr 230,vr 231,vr 232,vi 494 0,vi 96 0,vf 495])::
 (nat_lit 234,of "dropped" "Tally.dropped" (MA 28 3) (MB 28 3) (MS 28 3) vn (vs "lanescribe.tallies" 434) (vr 233))::
 (nat_lit 235,ot #[])::
 (nat_lit 237,ot #[vs "self" 500])::
 (nat_lit 238,ot #[])::
 (nat_lit 240,oc #[vs "twin" 497,vs "Tally.twin" 498,vf 499,vi 99 0,vi 1 0,vi 0 0,vi 0 0,vi 3 0,vr 235,vb,vi 181 0,vr 236,vn,vr 237,vr 238,vr 239,vi 501 0,vi 99 0,vf 502])::
 (nat_lit 241,of "twin" "Tally.twin" (MA 28 4) (MB 28 4) (MS 28 4) vn (vs "lanescribe.tallies" 434) (vr 240))::
 (nat_lit 242,ot #[])::
 (nat_lit 244,ot #[vs "self" 507])::
 (nat_lit 245,ot #[])::
 (nat_lit 247,oc #[vs "__len__" 504,vs "Tally.__len__" 505,vf 506,vi 102 0,vi 1 0,vi 0 0,vi 0 0,vi 3 0,vr 242,vb,vi 181 0,vr 243,vn,vr 244,vr 245,vr 246,vi 508 0,vi 102 0,vf 509])::
 (nat_lit 248,of "__len__" "Tally.__len__" (MA 28 5) (MB 28 5) (MS 28 5) vn (vs "lanescribe.tallies" 434) (vr 247))::
 (nat_lit 249,ot #[vs "beyond" 511,vs "counted" 512,vs "most" 513,vs "named" 514,vs "test" 515])::
 (nat_lit 250,{ cls:=vt "dict",data:=Data.dict #[de P "__module__" 458 (vs "lanescribe.tallies" 434),de P "__firstlineno__" 462 (vi 77 461),de P "__init__" 473 (vr 213),de P "note" 482 (vr 220),de P "table" 489 (vr 227),de P "dropped" 496 (vr 234),de P "twin" 503 (vr 241),de P "__len__" 510 (vr 248),de P "__static_attributes__" 516 (vr 249),de P "__dict__" 518 (vr 252),de P "__weakref__" 520 (vr 253),de P "__doc__" 521 (vn)] 4 })::
 (nat_lit 251,{ cls:=vt "type",data:=Data.cls { name:=u "Tally",bases:=[vt "object"],mro:=[vr 251,vt "object"],ns:=250,qualname:=u "Tally" },slots:=#[none,none,some (vs "Tally" 451),some (vs "Tally" 459),some (Value.builtin "object.__new__"),some (vb)] })::
 (nat_lit 252,{ cls:=vt "getset_descriptor",data:=Data.fields #[vs "__dict__" 517,vr 251,Value.builtin "function.__dict__",Value.builtin "function.__dict__#set"] })::
 (nat_lit 253,{ cls:=vt "getset_descriptor",data:=Data.fields #[vs "__weakref__" 519,vr 251,Value.builtin "ExceptionGroup.__weakref__",vn] })::
 (nat_lit 256,ot #[])::
 (nat_lit 258,ot #[vs "_law_script" 529,vs "_law_seed" 530,vs "_law_cell" 531])::
 (nat_lit 259,ot #[])::
 (nat_lit 261,oc #[vs "_law_begin" 526,vs "_law_begin" 527,vf 528,vi 105 0,vi 1 0,vi 0 0,vi 0 0,vi 3 0,vr 256,vb,vi 181 0,vr 257,vn,vr 258,vr 259,vr 260,vi 532 0,vi 105 0,vf 533])::
 (nat_lit 262,of "_law_begin" "_law_begin" (TA 30) (TB 30) (TS 30) vn (vs "law_lanescribe_k23_tallies_refused" 524) (vr 261))::
 (nat_lit 263,ot #[])::
 (nat_lit 265,ot #[vs "_law_d" 538,vs "_law_many" 539,vs "_law_cell" 540,vs "_law_digit" 541,vs "_law_one" 542])::
 (nat_lit 266,ot #[])::
 (nat_lit 268,oc #[vs "_law_pick" 535,vs "_law_pick" 536,vf 537,vi 110 0,vi 2 0,vi 0 0,vi 0 0,vi 3 0,vr 263,vb,vi 181 0,vr 264,vn,vr 265,vr 266,vr 267,vi 543 0,vi 110 0,vf 544])::
 (nat_lit 269,of "_law_pick" "_law_pick" (TA 31) (TB 31) (TS 31) vn (vs "law_lanescribe_k23_tallies_refused" 524) (vr 268))::
 (nat_lit 270,ot #[])::
 (nat_lit 272,ot #[vs "_law_d" 549,vs "_law_things" 550])::
 (nat_lit 273,ot #[])::
 (nat_lit 275,oc #[vs "_law_of" 546,vs "_law_of" 547,vf 548,vi 125 0,vi 2 0,vi 0 0,vi 0 0,vi 3 0,vr 270,vb,vi 181 0,vr 271,vn,vr 272,vr 273,vr 274,vi 551 0,vi 125 0,vf 552])::
 (nat_lit 276,of "_law_of" "_law_of" (TA 32) (TB 32) (TS 32) vn (vs "law_lanescribe_k23_tallies_refused" 524) (vr 275))::
 (nat_lit 277,ot #[])::
 (nat_lit 279,ot #[vs "_law_d" 557,vs "_law_number_here" 558])::
 (nat_lit 280,ot #[])::
 (nat_lit 282,oc #[vs "_law_far" 554,vs "_law_far" 555,vf 556,vi 127 0,vi 1 0,vi 0 0,vi 0 0,vi 3 0,vr 277,vb,vi 181 0,vr 278,vn,vr 279,vr 280,vr 281,vi 559 0,vi 127 0,vf 560])::
 (nat_lit 283,of "_law_far" "_law_far" (TA 33) (TB 33) (TS 33) vn (vs "law_lanescribe_k23_tallies_refused" 524) (vr 282))::
 (nat_lit 284,ot #[])::
 (nat_lit 287,oc #[vs "_law_same" 562,vs "_law_same" 563,vf 564,vi 130 0,vi 2 0,vi 0 0,vi 0 0,vi 3 0,vr 284,vb,vi 181 0,vr 285,vn,vn,vn,vr 286,vi 565 0,vi 130 0,vf 566])::
 (nat_lit 288,of "_law_same" "_law_same" (TA 34) (TB 34) (TS 34) vn (vs "law_lanescribe_k23_tallies_refused" 524) (vr 287))::
 (nat_lit 289,ot #[])::
 (nat_lit 292,oc #[vs "_law_word" 568,vs "_law_word" 569,vf 570,vi 140 0,vi 1 0,vi 0 0,vi 0 0,vi 3 0,vr 289,vb,vi 181 0,vr 290,vn,vn,vn,vr 291,vi 571 0,vi 140 0,vf 572])::
 (nat_lit 293,of "_law_word" "_law_word" (TA 35) (TB 35) (TS 35) vn (vs "law_lanescribe_k23_tallies_refused" 524) (vr 292))::
 (nat_lit 294,ot #[])::
 (nat_lit 296,ot #[vs "_law_d" 577,vs "_law_many" 578,vs "_law_found" 579,vs "_law_k" 580,vs "_law_word_here" 581,vs "_law_step" 582])::
 (nat_lit 297,ot #[])::
 (nat_lit 299,oc #[vs "_law_words" 574,vs "_law_words" 575,vf 576,vi 146 0,vi 2 0,vi 0 0,vi 0 0,vi 3 0,vr 294,vb,vi 181 0,vr 295,vn,vr 296,vr 297,vr 298,vi 583 0,vi 146 0,vf 584])::
 (nat_lit 300,of "_law_words" "_law_words" (TA 36) (TB 36) (TS 36) vn (vs "law_lanescribe_k23_tallies_refused" 524) (vr 299))::
 (nat_lit 301,ot #[])::
 (nat_lit 304,oc #[vs "_law_is_name" 586,vs "_law_is_name" 587,vf 588,vi 155 0,vi 1 0,vi 0 0,vi 0 0,vi 3 0,vr 301,vb,vi 181 0,vr 302,vn,vn,vn,vr 303,vi 589 0,vi 155 0,vf 590])::
 (nat_lit 305,of "_law_is_name" "_law_is_name" (TA 37) (TB 37) (TS 37) vn (vs "law_lanescribe_k23_tallies_refused" 524) (vr 304))::
 (nat_lit 306,ot #[])::
 (nat_lit 308,ot #[vs "_law_ask_here" 595,vs "_law_told" 596,vs "_law_word_here" 597,vs "e" 598])::
 (nat_lit 309,ot #[])::
 (nat_lit 311,oc #[vs "_law_ask" 592,vs "_law_ask" 593,vf 594,vi 157 0,vi 1 0,vi 0 0,vi 0 0,vi 3 0,vr 306,vb,vi 181 0,vr 307,vn,vr 308,vr 309,vr 310,vi 599 0,vi 157 0,vf 600])::
 (nat_lit 312,of "_law_ask" "_law_ask" (TA 38) (TB 38) (TS 38) vn (vs "law_lanescribe_k23_tallies_refused" 524) (vr 311))::
 (nat_lit 313,ot #[])::
 (nat_lit 315,ot #[vs "_law_d" 605,vs "_law_text" 606,vs "_law_odd" 607])::
 (nat_lit 316,ot #[])::
 (nat_lit 318,oc #[vs "_law_odd_name" 602,vs "_law_odd_name" 603,vf 604,vi 169 0,vi 2 0,vi 0 0,vi 0 0,vi 3 0,vr 313,vb,vi 181 0,vr 314,vn,vr 315,vr 316,vr 317,vi 608 0,vi 169 0,vf 609])::
 (nat_lit 319,of "_law_odd_name" "_law_odd_name" (TA 39) (TB 39) (TS 39) vn (vs "law_lanescribe_k23_tallies_refused" 524) (vr 318))::
 (nat_lit 320,ot #[])::
 (nat_lit 322,ot #[vs "_law_d" 614])::
 (nat_lit 323,ot #[])::
 (nat_lit 325,oc #[vs "_law_number" 611,vs "_law_number" 612,vf 613,vi 172 0,vi 1 0,vi 0 0,vi 0 0,vi 3 0,vr 320,vb,vi 181 0,vr 321,vn,vr 322,vr 323,vr 324,vi 615 0,vi 172 0,vf 616])::
 (nat_lit 326,of "_law_number" "_law_number" (TA 40) (TB 40) (TS 40) vn (vs "law_lanescribe_k23_tallies_refused" 524) (vr 325))::
 (nat_lit 327,ot #[])::
 (nat_lit 329,ot #[vs "_law_d" 621,vs "_law_names" 622,vs "_law_kinds" 623,vs "_law_way" 624])::
 (nat_lit 330,ot #[])::
 (nat_lit 332,oc #[vs "_law_leaf" 618,vs "_law_leaf" 619,vf 620,vi 174 0,vi 3 0,vi 0 0,vi 0 0,vi 3 0,vr 327,vb,vi 181 0,vr 328,vn,vr 329,vr 330,vr 331,vi 625 0,vi 174 0,vf 626])::
 (nat_lit 333,of "_law_leaf" "_law_leaf" (TA 41) (TB 41) (TS 41) vn (vs "law_lanescribe_k23_tallies_refused" 524) (vr 332))::
 (nat_lit 334,ot #[])::
 (nat_lit 336,ot #[vs "_law_d" 631,vs "_law_deep_here" 632,vs "_law_names" 633,vs "_law_kinds" 634,vs "_law_way" 635,vs "_law_word_here" 636])::
 (nat_lit 337,ot #[])::
 (nat_lit 339,oc #[vs "_law_tree" 628,vs "_law_tree" 629,vf 630,vi 181 0,vi 4 0,vi 0 0,vi 0 0,vi 3 0,vr 334,vb,vi 181 0,vr 335,vn,vr 336,vr 337,vr 338,vi 637 0,vi 181 0,vf 638])::
 (nat_lit 340,of "_law_tree" "_law_tree" (TA 42) (TB 42) (TS 42) vn (vs "law_lanescribe_k23_tallies_refused" 524) (vr 339))::
 (nat_lit 341,ot #[])::
 (nat_lit 344,oc #[vs "_law_parts" 640,vs "_law_parts" 641,vf 642,vi 189 0,vi 1 0,vi 0 0,vi 0 0,vi 3 0,vr 341,vb,vi 181 0,vr 342,vn,vn,vn,vr 343,vi 643 0,vi 189 0,vf 644])::
 (nat_lit 345,of "_law_parts" "_law_parts" (TA 43) (TB 43) (TS 43) vn (vs "law_lanescribe_k23_tallies_refused" 524) (vr 344))::
 (nat_lit 346,ot #[])::
 (nat_lit 349,oc #[vs "_law_deep" 646,vs "_law_deep" 647,vf 648,vi 193 0,vi 1 0,vi 0 0,vi 0 0,vi 3 0,vr 346,vb,vi 181 0,vr 347,vn,vn,vn,vr 348,vi 649 0,vi 193 0,vf 650])::
 (nat_lit 350,of "_law_deep" "_law_deep" (TA 44) (TB 44) (TS 44) vn (vs "law_lanescribe_k23_tallies_refused" 524) (vr 349))::
 (nat_lit 351,ot #[])::
 (nat_lit 353,ot #[vs "_law_d" 655,vs "_law_names" 656,vs "_law_kinds" 657,vs "_law_test_here" 658])::
 (nat_lit 354,ot #[])::
 (nat_lit 356,oc #[vs "_law_test" 652,vs "_law_test" 653,vf 654,vi 197 0,vi 3 0,vi 0 0,vi 0 0,vi 3 0,vr 351,vb,vi 181 0,vr 352,vn,vr 353,vr 354,vr 355,vi 659 0,vi 197 0,vf 660])::
 (nat_lit 357,of "_law_test" "_law_test" (TA 45) (TB 45) (TS 45) vn (vs "law_lanescribe_k23_tallies_refused" 524) (vr 356))::
 (nat_lit 358,ot #[])::
 (nat_lit 360,ot #[vs "_law_test_here" 665])::
 (nat_lit 361,ot #[])::
 (nat_lit 363,oc #[vs "_law_leaf_ok" 662,vs "_law_leaf_ok" 663,vf 664,vi 200 0,vi 1 0,vi 0 0,vi 0 0,vi 3 0,vr 358,vb,vi 181 0,vr 359,vn,vr 360,vr 361,vr 362,vi 666 0,vi 200 0,vf 667])::
 (nat_lit 364,of "_law_leaf_ok" "_law_leaf_ok" (TA 46) (TB 46) (TS 46) vn (vs "law_lanescribe_k23_tallies_refused" 524) (vr 363))::
 (nat_lit 365,ot #[])::
 (nat_lit 367,ot #[vs "_law_test_here" 672])::
 (nat_lit 368,ot #[])::
 (nat_lit 370,oc #[vs "_law_shape_ok" 669,vs "_law_shape_ok" 670,vf 671,vi 210 0,vi 1 0,vi 0 0,vi 0 0,vi 3 0,vr 365,vb,vi 181 0,vr 366,vn,vr 367,vr 368,vr 369,vi 673 0,vi 210 0,vf 674])::
 (nat_lit 371,of "_law_shape_ok" "_law_shape_ok" (TA 47) (TB 47) (TS 47) vn (vs "law_lanescribe_k23_tallies_refused" 524) (vr 370))::
 (nat_lit 372,ot #[])::
 (nat_lit 374,ot #[vs "_law_test_here" 679])::
 (nat_lit 375,ot #[])::
 (nat_lit 377,oc #[vs "_law_test_ok" 676,vs "_law_test_ok" 677,vf 678,vi 218 0,vi 1 0,vi 0 0,vi 0 0,vi 3 0,vr 372,vb,vi 181 0,vr 373,vn,vr 374,vr 375,vr 376,vi 680 0,vi 218 0,vf 681])::
 (nat_lit 378,of "_law_test_ok" "_law_test_ok" (TA 48) (TB 48) (TS 48) vn (vs "law_lanescribe_k23_tallies_refused" 524) (vr 377))::
 (nat_lit 379,ot #[])::
 (nat_lit 381,ot #[vs "_law_d" 686,vs "_law_test_here" 687,vs "_law_way" 688,vs "_law_at" 689])::
 (nat_lit 382,ot #[])::
 (nat_lit 384,oc #[vs "_law_bent_test" 683,vs "_law_bent_test" 684,vf 685,vi 220 0,vi 2 0,vi 0 0,vi 0 0,vi 3 0,vr 379,vb,vi 181 0,vr 380,vn,vr 381,vr 382,vr 383,vi 690 0,vi 220 0,vf 691])::
 (nat_lit 385,of "_law_bent_test" "_law_bent_test" (TA 49) (TB 49) (TS 49) vn (vs "law_lanescribe_k23_tallies_refused" 524) (vr 384))::
 (nat_lit 386,ot #[])::
 (nat_lit 389,oc #[vs "law" 693,vs "law" 694,vf 695,vi 246 0,vi 1 0,vi 0 0,vi 0 0,vi 3 0,vr 386,vb,vi 181 0,vr 387,vn,vn,vn,vr 388,vi 696 0,vi 246 0,vf 697])::
 (nat_lit 390,of "law" "law" (TA 50) (TB 50) (TS 50) vn (vs "law_lanescribe_k23_tallies_refused" 524) (vr 389))::[]
def asK:List Addr:=[2,3,15,17,18,20,21,22,29,30,32,33,35,36,37,38,39,40,43,50,51,53,54,56,57,58,59,60,63,70,71,73,74,76,77,78,79,80,83,90,91,93,94,96,97,98,99,100,103,110,112,113,115,116,117,118,119,122,129,130,132,133,135,136,137,138,139,140,143,145,146,148,149,150,151,152,154,155,157,158,159,161,162,164,165,166,168,169,171,172,173,176,177,178,180,181,183,184,185,187,188,190,191,192,194,195,197,198,206,207,209,210,212,213,214,216,217,219,220,221,223,224,226,227,228,230,231,233,234,235,237,238,240,241,242,244,245,247,248,249,250,251,252,253,256,258,259,261,262,263,265,266,268,269,270,272,273,275,276,277,279,280,282,283,284,287,288,289,292,293,294,296,297,299,300,301,304,305,306,308,309,311,312,313,315,316,318,319,320,322,323,325,326,327,329,330,332,333,334,336,337,339,340,341,344,345,346,349,350,351,353,354,356,357,358,360,361,363,364,365,367,368,370,371,372,374,375,377,378,379,381,382,384,385,386,389,390]
theorem eK:∀ P,asK=(KK P).map (·.1):=fun P=>by kernel_rfl
def vw:Program:={ PySem.Challenge.pw_lanescribe_k23_tallies_refused with main:={ PySem.Challenge.pw_lanescribe_k23_tallies_refused.main with body:=[tp 0,tp 2,tp 3,tp 4,tp 5,tp 6,tp 7,tp 9,tp 10,tp 11,tp 13,tp 14,tp 15,tp 16,tp 17,tp 18,tp 19,tp 20,tp 21,tp 22,tp 24,tp 25,tp 26,tp 27,tp 28,tp 30,tp 31,tp 32,tp 33,tp 34,tp 35,tp 36,tp 37,tp 38,tp 39,tp 40,tp 41,tp 42,tp 43,tp 44,tp 45,tp 46,tp 47,tp 48,tp 49,tp 50] } }
def ls:List Str:=[u "ScribeError",u "BadTest",u "BadSize",u "BadKeys",u "Missing",u "WITHIN",u "SIGN_OF",u "Tally"]
def lv:List (Str×WData):=[]
abbrev Xt:Shared->Bool:=fun s=>xlAt vw lv s && recOk (RowW.records (OpenRow.toRowW PySem.Challenge.rw_lanescribe_k23_tallies_refused.row)) s
abbrev hk:Hook:=kmHook KK asK eK [387]
theorem said:PySem.Challenge.rw_lanescribe_k23_tallies_refused.wellSaid=true:=by kernel_rfl
theorem openP:opening (OpenRow.toRowW PySem.Challenge.rw_lanescribe_k23_tallies_refused.row).prog=plainProg (OpenRow.toRowW PySem.Challenge.rw_lanescribe_k23_tallies_refused.row).prog.main.scope.names:=by kernel_rfl
theorem by_parts {p:Program} {w:World} {N L:Nat} {s0 s':Shared} {t':Thread} {m0:Nat} {ann:Option Value} {β:Type} {F:Shared->β} {X:β} (h1:(s0.heap.isNs mainGlobals && s0.gens.size == 0)=true) (h2:s0.heap.objs.size=m0) (h3:s0.heap.nsMap mainGlobals "__annotations__" = ann)
 (chain:∀ r,topRun treeTable p w m0 ann L s' t'=some r->topRun treeTable p w m0 ann N s0 (topStub p)=some r)
 (last:((topRun treeTable p w m0 ann L s' t').bind fun s₁=>match staticsOk (importedModules p.main.body) s0.heap s₁.heap && namesBound p s₁.heap && gensDone s₁ && laidKept s0.heap s₁.heap with
  |true=>some s₁
  |false=>none).map F=some X):(topFrom treeTable p w N s0).map F=some X:=by
 cases hA:topRun treeTable p w m0 ann L s' t' with
 |none=>rw [hA] at last;cases last
 | some r=>
   have e:=chain r hA
   unfold topFrom
   rw [h1,h2,h3,e]
   rw [hA] at last
   exact last
abbrev pp:Program:=(OpenRow.toRowW PySem.Challenge.rw_lanescribe_k23_tallies_refused.row).prog
def env:Env:={ scope:=pp.main.scope,locals:=mainNs,globals:=mainNs,cells:=[],code:=vr 13,frame:=some 14 }
abbrev cd:Code:=.body (behindTheImports pp) env
abbrev fp:Pos:={ line:=0,col:=0,endLine:=0,endCol:=0 }
abbrev an:Option Value:=some (vr 6)
abbrev S_0 (w:World) (os:OsState):Shared:=⟨boot_heap w.params,Array.mk [],boot_drawn,boot_toks,os⟩
def o0 (P:Params):Obj:=ot #[]
def o1 (P:Params):Obj:={ cls:=vn,data:=Data.fields #[] }
def o2 (P:Params):Obj:=oc #[vs "<module>" 182,vs "<module>" 183,vf 184,vi 1 0,vi 0 0,vi 0 0,vi 0 0,vi 0 0,vr 11,Value.bool false,vi 181 0,vr 12,vn,vn,vn,vn,vi 185 0,vi 1 0,vf 186]
def o3 (P:Params):Obj:={ cls:=vt "frame",slots:=#[some (vr 13),some (vr 3),some (vr 3),none,some (vs "__main__" 164),none,some (vr 0)] }
def h_a (P:Params):Heap:=⟨⟨boot_o_0 P::boot_o_1 P::boot_o_2 P::boot_o_3 P::boot_o_4 P::boot_o_5 P::boot_o_6 P::boot_o_7 P::boot_o_8 P::boot_o_9 P::boot_o_10 P::o0 P::o1 P::o2 P::o3 P::[]⟩,{ }⟩
abbrev S_a (w:World) (os:OsState):Shared:=⟨h_a w.params,Array.mk [],{ },187,os⟩
abbrev p_a:Pos:={ line:=0,col:=0,endLine:=0,endCol:=0 }
def h_b (P:Params):Heap:=⟨⟨boot_o_0 P::boot_o_1 P::boot_o_2 P::boot_o_3 P::boot_o_4 P::boot_o_5 P::boot_o_6 P::boot_o_7 P::boot_o_8 P::boot_o_9 P::boot_o_10 P::o0 P::o1 P::o2 P::o3 P::[]⟩,{ }⟩
abbrev S_b (w:World) (os:OsState):Shared:=⟨h_b w.params,Array.mk [],{ },187,os⟩
abbrev p_b:Pos:={ line:=0,col:=0,endLine:=0,endCol:=0 }
theorem r_a (w:World) (os:OsState):topGo treeTable pp w 11 an 12 (S_0 w os) (topStub pp)=some (S_a w os,⟨denote treeTable cd,cd,p_a,[topFrame fp]⟩):=by (revert w os;refine (byRow2 "special-get-raises" ?_ ?_:∀ w,_) <;> (intro w os;kernel_rfl))
theorem r_b (w:World) (os:OsState):segRun treeTable pp w 11 an 1 1 (S_a w os) (blockOf (behindTheImports pp) env cd p_a [topFrame fp])=some (.next,S_b w os,cd,p_b):=by (revert w os;refine (byRow2 "special-get-raises" ?_ ?_:∀ w,_) <;> (intro w os;kernel_rfl))
def o4 (P:Params):Obj:={ cls:=vt "dict",data:=Data.dict #[de P "__name__" 165 (vs "lanescribe.errors" 194),de P "__doc__" 166 (vn),de P "__package__" 167 (vn),de P "__loader__" 168 (Value.builtin "__main__.__loader__#opaque"),de P "__spec__" 169 (vn),de P "__annotations__" 170 (vr 6),de P "__builtins__" 171 (vr 4),de P "__file__" 173 (vf 172),de P "__cached__" 174 (vn),de P "_wall" 193 (vr 21),de P "ScribeError" 225 (vr 39),de P "BadTest" 250 (vr 60),de P "BadSize" 275 (vr 80)] 13 }
def o5 (P:Params):Obj:={ cls:=vn,data:=Data.fields #[vi 1 0,vi 0 0,vr 20,vi 5 0,vi 0 0,vr 27,vi 10 0,vi 0 0,vr 48,vi 14 0,vi 0 0,vr 68] }
def o6 (P:Params):Obj:=ot #[vs "k" 190]
def o7 (P:Params):Obj:={ cls:=vn,data:=Data.func { name:=u "_wall",qualname:=u "_wall",params:=TA 0,body:=FuncBody.stmts (TB 0),scope:=TS 0,globals:=0,closure:=[],defaults:=vn,kwdefaults:=vn } }
def o8 (P:Params):Obj:=oc #[vs "_wall" 187,vs "_wall" 188,vf 189,vi 1 0,vi 1 0,vi 0 0,vi 0 0,vi 3 0,vr 15,vb,vi 181 0,vr 16,vn,vr 17,vr 18,vr 19,vi 191 0,vi 1 0,vf 192]
def o9 (P:Params):Obj:=of "_wall" "_wall" (TA 0) (TB 0) (TS 0) vn (vs "__main__" 164) (vr 20)
def o10 (P:Params):Obj:=ot #[vt "ValueError"]
def o11 (P:Params):Obj:={ cls:=vt "builtin_function_or_method",data:=Data.fields #[Value.builtin "type.__prepare__",vt "type"] }
def o12 (P:Params):Obj:={ cls:=vt "dict",data:=Data.dict #[de P "__module__" 203 (vs "lanescribe.errors" 194),de P "__qualname__" 205 (vs "ScribeError" 204),de P "__firstlineno__" 207 (vi 5 206),de P "__init__" 218 (vr 36),de P "__static_attributes__" 220 (vr 37)] 5 }
def o13 (P:Params):Obj:={ cls:=vn,data:=Data.fields #[vi 7 0,vi 4 0,vr 35] }
def o14 (P:Params):Obj:=oc #[vs "ScribeError" 198,vs "ScribeError" 199,vf 200,vi 5 0,vi 0 0,vi 0 0,vi 0 0,vi 0 0,vr 25,Value.bool false,vi 181 0,vr 26,vn,vn,vn,vn,vi 201 0,vi 5 0,vf 202]
def o15 (P:Params):Obj:={ cls:=vt "frame",slots:=#[some (vr 27),some (vr 3),some (vr 24),none,some (vs "lanescribe.errors" 194),none,some (vr 0)] }
def o16 (P:Params):Obj:=ot #[vs "" 208,vs "scribeerror" 209]
def o17 (P:Params):Obj:=ot #[vs "self" 213,vs "words" 214,vs "word" 215]
def o18 (P:Params):Obj:={ cls:=vn,data:=Data.func { name:=u "__init__",qualname:=u "ScribeError.__init__",params:=MA 2 0,body:=FuncBody.stmts (MB 2 0),scope:=MS 2 0,globals:=0,closure:=[],defaults:=vn,kwdefaults:=vn } }
def o19 (P:Params):Obj:=oc #[vs "__init__" 210,vs "ScribeError.__init__" 211,vf 212,vi 7 0,vi 3 0,vi 0 0,vi 0 0,vi 3 0,vr 30,vb,vi 181 0,vr 31,vn,vr 32,vr 33,vr 34,vi 216 0,vi 7 0,vf 217]
def o20 (P:Params):Obj:=of "__init__" "ScribeError.__init__" (MA 2 0) (MB 2 0) (MS 2 0) (vr 29) (vs "lanescribe.errors" 194) (vr 35)
def o21 (P:Params):Obj:=ot #[vs "word" 219]
def o22 (P:Params):Obj:={ cls:=vt "dict",data:=Data.dict #[de P "__module__" 203 (vs "lanescribe.errors" 194),de P "__firstlineno__" 207 (vi 5 206),de P "__init__" 218 (vr 36),de P "__static_attributes__" 220 (vr 37),de P "__weakref__" 222 (vr 40),de P "__doc__" 223 (vn)] 3 }
def o23 (P:Params):Obj:={ cls:=vt "type",data:=Data.cls { name:=u "ScribeError",bases:=[vt "ValueError"],mro:=[vr 39,vt "ValueError",vt "Exception",vt "BaseException",vt "object"],ns:=38,qualname:=u "ScribeError",subclasses:=[vr 60,vr 80] },slots:=#[some (vr 22),none,some (vs "ScribeError" 196),some (vs "ScribeError" 204),some (Value.builtin "ValueError.__new__"),some (vb)] }
def o24 (P:Params):Obj:={ cls:=vt "getset_descriptor",data:=Data.fields #[vs "__weakref__" 221,vr 39,Value.builtin "ExceptionGroup.__weakref__",vn] }
def o25 (P:Params):Obj:={ cls:=vt "super",data:=Data.fields #[vr 39,vr 39,vr 39] }
def o26 (P:Params):Obj:={ cls:=vt "builtin_function_or_method",data:=Data.fields #[Value.builtin "object.__init_subclass__",vr 39] }
def o27 (P:Params):Obj:=ot #[vr 39]
def o28 (P:Params):Obj:={ cls:=vt "dict",data:=Data.dict #[de P "__module__" 233 (vs "lanescribe.errors" 194),de P "__qualname__" 235 (vs "BadTest" 234),de P "__firstlineno__" 237 (vi 10 236),de P "__init__" 246 (vr 57),de P "__static_attributes__" 247 (vr 58)] 5 }
def o29 (P:Params):Obj:={ cls:=vn,data:=Data.fields #[vi 12 0,vi 4 0,vr 56] }
def o30 (P:Params):Obj:=oc #[vs "BadTest" 228,vs "BadTest" 229,vf 230,vi 10 0,vi 0 0,vi 0 0,vi 0 0,vi 0 0,vr 46,Value.bool false,vi 181 0,vr 47,vn,vn,vn,vn,vi 231 0,vi 10 0,vf 232]
def o31 (P:Params):Obj:={ cls:=vt "frame",slots:=#[some (vr 48),some (vr 3),some (vr 45),none,some (vs "lanescribe.errors" 194),none,some (vr 0)] }
def o32 (P:Params):Obj:=ot #[vs "" 238]
def o33 (P:Params):Obj:=ot #[vs "self" 242,vs "words" 243]
def o34 (P:Params):Obj:={ cls:=vn,data:=Data.func { name:=u "__init__",qualname:=u "BadTest.__init__",params:=MA 3 0,body:=FuncBody.stmts (MB 3 0),scope:=MS 3 0,globals:=0,closure:=[],defaults:=vn,kwdefaults:=vn } }
def o35 (P:Params):Obj:=oc #[vs "__init__" 239,vs "BadTest.__init__" 240,vf 241,vi 12 0,vi 2 0,vi 0 0,vi 0 0,vi 3 0,vr 51,vb,vi 181 0,vr 52,vn,vr 53,vr 54,vr 55,vi 244 0,vi 12 0,vf 245]
def o36 (P:Params):Obj:=of "__init__" "BadTest.__init__" (MA 3 0) (MB 3 0) (MS 3 0) (vr 50) (vs "lanescribe.errors" 194) (vr 56)
def o37 (P:Params):Obj:={ cls:=vt "dict",data:=Data.dict #[de P "__module__" 233 (vs "lanescribe.errors" 194),de P "__firstlineno__" 237 (vi 10 236),de P "__init__" 246 (vr 57),de P "__static_attributes__" 247 (vr 58),de P "__doc__" 248 (vn)] 2 }
def o38 (P:Params):Obj:={ cls:=vt "type",data:=Data.cls { name:=u "BadTest",bases:=[vr 39],mro:=[vr 60,vr 39,vt "ValueError",vt "Exception",vt "BaseException",vt "object"],ns:=59,qualname:=u "BadTest" },slots:=#[some (vr 43),none,some (vs "BadTest" 226),some (vs "BadTest" 234),some (Value.builtin "ValueError.__new__"),some (vb)] }
def o39 (P:Params):Obj:={ cls:=vt "super",data:=Data.fields #[vr 60,vr 60,vr 60] }
def o40 (P:Params):Obj:={ cls:=vt "builtin_function_or_method",data:=Data.fields #[Value.builtin "object.__init_subclass__",vr 60] }
def o41 (P:Params):Obj:={ cls:=vt "dict",data:=Data.dict #[de P "__module__" 258 (vs "lanescribe.errors" 194),de P "__qualname__" 260 (vs "BadSize" 259),de P "__firstlineno__" 262 (vi 14 261),de P "__init__" 271 (vr 77),de P "__static_attributes__" 272 (vr 78)] 5 }
def o42 (P:Params):Obj:={ cls:=vn,data:=Data.fields #[vi 16 0,vi 4 0,vr 76] }
def o43 (P:Params):Obj:=oc #[vs "BadSize" 253,vs "BadSize" 254,vf 255,vi 14 0,vi 0 0,vi 0 0,vi 0 0,vi 0 0,vr 66,Value.bool false,vi 181 0,vr 67,vn,vn,vn,vn,vi 256 0,vi 14 0,vf 257]
def o44 (P:Params):Obj:={ cls:=vt "frame",slots:=#[some (vr 68),some (vr 3),some (vr 65),none,some (vs "lanescribe.errors" 194),none,some (vr 0)] }
def o45 (P:Params):Obj:=ot #[vs "" 263]
def o46 (P:Params):Obj:=ot #[vs "self" 267,vs "words" 268]
def o47 (P:Params):Obj:={ cls:=vn,data:=Data.func { name:=u "__init__",qualname:=u "BadSize.__init__",params:=MA 4 0,body:=FuncBody.stmts (MB 4 0),scope:=MS 4 0,globals:=0,closure:=[],defaults:=vn,kwdefaults:=vn } }
def o48 (P:Params):Obj:=oc #[vs "__init__" 264,vs "BadSize.__init__" 265,vf 266,vi 16 0,vi 2 0,vi 0 0,vi 0 0,vi 3 0,vr 71,vb,vi 181 0,vr 72,vn,vr 73,vr 74,vr 75,vi 269 0,vi 16 0,vf 270]
def o49 (P:Params):Obj:=of "__init__" "BadSize.__init__" (MA 4 0) (MB 4 0) (MS 4 0) (vr 70) (vs "lanescribe.errors" 194) (vr 76)
def o50 (P:Params):Obj:={ cls:=vt "dict",data:=Data.dict #[de P "__module__" 258 (vs "lanescribe.errors" 194),de P "__firstlineno__" 262 (vi 14 261),de P "__init__" 271 (vr 77),de P "__static_attributes__" 272 (vr 78),de P "__doc__" 273 (vn)] 2 }
def o51 (P:Params):Obj:={ cls:=vt "type",data:=Data.cls { name:=u "BadSize",bases:=[vr 39],mro:=[vr 80,vr 39,vt "ValueError",vt "Exception",vt "BaseException",vt "object"],ns:=79,qualname:=u "BadSize" },slots:=#[some (vr 63),none,some (vs "BadSize" 251),some (vs "BadSize" 259),some (Value.builtin "ValueError.__new__"),some (vb)] }
def o52 (P:Params):Obj:={ cls:=vt "super",data:=Data.fields #[vr 80,vr 80,vr 80] }
def o53 (P:Params):Obj:={ cls:=vt "builtin_function_or_method",data:=Data.fields #[Value.builtin "object.__init_subclass__",vr 80] }
def h_c5 (P:Params):Heap:=⟨⟨boot_o_0 P::boot_o_1 P::boot_o_2 P::o4 P::boot_o_4 P::boot_o_5 P::boot_o_6 P::boot_o_7 P::boot_o_8 P::boot_o_9 P::boot_o_10 P::o0 P::o5 P::o2 P::o3 P::o0 P::o1 P::o6 P::o0 P::o7 P::o8 P::o9 P::o10 P::o11 P::o12 P::o0 P::o13 P::o14 P::o15 P::o16 P::o0 P::o1 P::o17 P::o0 P::o18 P::o19 P::o20 P::o21 P::o22 P::o23 P::o24 P::o25 P::o26 P::o27 P::o11 P::o28 P::o0 P::o29 P::o30 P::o31 P::o32 P::o0 P::o1 P::o33 P::o0 P::o34 P::o35 P::o36 P::o0 P::o37 P::o38 P::o39 P::o40 P::o27 P::o11 P::o41 P::o0 P::o42 P::o43 P::o44 P::o45 P::o0 P::o1 P::o46 P::o0 P::o47 P::o48 P::o49 P::o0 P::o50 P::o51 P::o52 P::o53 P::[]⟩,{ }⟩
abbrev S_c5 (w:World) (os:OsState):Shared:=⟨h_c5 w.params,Array.mk [],{ },276,os⟩
abbrev p_c5:Pos:={ line:=14,col:=0,endLine:=17,endCol:=52 }
abbrev l_5:List Stmt:=((behindTheImports pp).drop 0).take 5
theorem r_5 (w:World) (os:OsState):segRun treeTable pp w 11 an 1 753 (S_b w os) (piecesOf l_5 env cd p_b [topFrame fp])=some (.next,S_c5 w os,cd,p_c5):=by (revert w os;refine (byRow2 "special-get-raises" ?_ ?_:∀ w,_) <;> (intro w os;kernel_rfl))
def o54 (P:Params):Obj:={ cls:=vt "dict",data:=Data.dict #[de P "__name__" 165 (vs "lanescribe.errors" 194),de P "__doc__" 166 (vn),de P "__package__" 167 (vn),de P "__loader__" 168 (Value.builtin "__main__.__loader__#opaque"),de P "__spec__" 169 (vn),de P "__annotations__" 170 (vr 6),de P "__builtins__" 171 (vr 4),de P "__file__" 173 (vf 172),de P "__cached__" 174 (vn),de P "_wall" 193 (vr 21),de P "ScribeError" 225 (vr 39),de P "BadTest" 250 (vr 60),de P "BadSize" 275 (vr 80),de P "BadKeys" 300 (vr 100),de P "BadValue" 325 (vr 119),de P "Missing" 355 (vr 139)] 16 }
def o55 (P:Params):Obj:={ cls:=vn,data:=Data.fields #[vi 1 0,vi 0 0,vr 20,vi 5 0,vi 0 0,vr 27,vi 10 0,vi 0 0,vr 48,vi 14 0,vi 0 0,vr 68,vi 18 0,vi 0 0,vr 88,vi 22 0,vi 0 0,vr 108,vi 27 0,vi 0 0,vr 127] }
def o56 (P:Params):Obj:={ cls:=vt "type",data:=Data.cls { name:=u "ScribeError",bases:=[vt "ValueError"],mro:=[vr 39,vt "ValueError",vt "Exception",vt "BaseException",vt "object"],ns:=38,qualname:=u "ScribeError",subclasses:=[vr 60,vr 80,vr 100,vr 119] },slots:=#[some (vr 22),none,some (vs "ScribeError" 196),some (vs "ScribeError" 204),some (Value.builtin "ValueError.__new__"),some (vb)] }
def o57 (P:Params):Obj:={ cls:=vt "dict",data:=Data.dict #[de P "__module__" 283 (vs "lanescribe.errors" 194),de P "__qualname__" 285 (vs "BadKeys" 284),de P "__firstlineno__" 287 (vi 18 286),de P "__init__" 296 (vr 97),de P "__static_attributes__" 297 (vr 98)] 5 }
def o58 (P:Params):Obj:={ cls:=vn,data:=Data.fields #[vi 20 0,vi 4 0,vr 96] }
def o59 (P:Params):Obj:=oc #[vs "BadKeys" 278,vs "BadKeys" 279,vf 280,vi 18 0,vi 0 0,vi 0 0,vi 0 0,vi 0 0,vr 86,Value.bool false,vi 181 0,vr 87,vn,vn,vn,vn,vi 281 0,vi 18 0,vf 282]
def o60 (P:Params):Obj:={ cls:=vt "frame",slots:=#[some (vr 88),some (vr 3),some (vr 85),none,some (vs "lanescribe.errors" 194),none,some (vr 0)] }
def o61 (P:Params):Obj:=ot #[vs "" 288]
def o62 (P:Params):Obj:=ot #[vs "self" 292,vs "words" 293]
def o63 (P:Params):Obj:={ cls:=vn,data:=Data.func { name:=u "__init__",qualname:=u "BadKeys.__init__",params:=MA 5 0,body:=FuncBody.stmts (MB 5 0),scope:=MS 5 0,globals:=0,closure:=[],defaults:=vn,kwdefaults:=vn } }
def o64 (P:Params):Obj:=oc #[vs "__init__" 289,vs "BadKeys.__init__" 290,vf 291,vi 20 0,vi 2 0,vi 0 0,vi 0 0,vi 3 0,vr 91,vb,vi 181 0,vr 92,vn,vr 93,vr 94,vr 95,vi 294 0,vi 20 0,vf 295]
def o65 (P:Params):Obj:=of "__init__" "BadKeys.__init__" (MA 5 0) (MB 5 0) (MS 5 0) (vr 90) (vs "lanescribe.errors" 194) (vr 96)
def o66 (P:Params):Obj:={ cls:=vt "dict",data:=Data.dict #[de P "__module__" 283 (vs "lanescribe.errors" 194),de P "__firstlineno__" 287 (vi 18 286),de P "__init__" 296 (vr 97),de P "__static_attributes__" 297 (vr 98),de P "__doc__" 298 (vn)] 2 }
def o67 (P:Params):Obj:={ cls:=vt "type",data:=Data.cls { name:=u "BadKeys",bases:=[vr 39],mro:=[vr 100,vr 39,vt "ValueError",vt "Exception",vt "BaseException",vt "object"],ns:=99,qualname:=u "BadKeys" },slots:=#[some (vr 83),none,some (vs "BadKeys" 276),some (vs "BadKeys" 284),some (Value.builtin "ValueError.__new__"),some (vb)] }
def o68 (P:Params):Obj:={ cls:=vt "super",data:=Data.fields #[vr 100,vr 100,vr 100] }
def o69 (P:Params):Obj:={ cls:=vt "builtin_function_or_method",data:=Data.fields #[Value.builtin "object.__init_subclass__",vr 100] }
def o70 (P:Params):Obj:={ cls:=vt "dict",data:=Data.dict #[de P "__module__" 308 (vs "lanescribe.errors" 194),de P "__qualname__" 310 (vs "BadValue" 309),de P "__firstlineno__" 312 (vi 22 311),de P "__init__" 320 (vr 116),de P "__static_attributes__" 322 (vr 117)] 5 }
def o71 (P:Params):Obj:={ cls:=vn,data:=Data.fields #[vi 24 0,vi 4 0,vr 115] }
def o72 (P:Params):Obj:=oc #[vs "BadValue" 303,vs "BadValue" 304,vf 305,vi 22 0,vi 0 0,vi 0 0,vi 0 0,vi 0 0,vr 106,Value.bool false,vi 181 0,vr 107,vn,vn,vn,vn,vi 306 0,vi 22 0,vf 307]
def o73 (P:Params):Obj:={ cls:=vt "frame",slots:=#[some (vr 108),some (vr 3),some (vr 105),none,some (vs "lanescribe.errors" 194),none,some (vr 0)] }
def o74 (P:Params):Obj:=ot #[vs "self" 316,vs "at" 317]
def o75 (P:Params):Obj:={ cls:=vn,data:=Data.func { name:=u "__init__",qualname:=u "BadValue.__init__",params:=MA 6 0,body:=FuncBody.stmts (MB 6 0),scope:=MS 6 0,globals:=0,closure:=[],defaults:=vn,kwdefaults:=vn } }
def o76 (P:Params):Obj:=oc #[vs "__init__" 313,vs "BadValue.__init__" 314,vf 315,vi 24 0,vi 2 0,vi 0 0,vi 0 0,vi 3 0,vr 110,vb,vi 181 0,vr 111,vn,vr 112,vr 113,vr 114,vi 318 0,vi 24 0,vf 319]
def o77 (P:Params):Obj:=of "__init__" "BadValue.__init__" (MA 6 0) (MB 6 0) (MS 6 0) vn (vs "lanescribe.errors" 194) (vr 115)
def o78 (P:Params):Obj:=ot #[vs "at" 321]
def o79 (P:Params):Obj:={ cls:=vt "dict",data:=Data.dict #[de P "__module__" 308 (vs "lanescribe.errors" 194),de P "__firstlineno__" 312 (vi 22 311),de P "__init__" 320 (vr 116),de P "__static_attributes__" 322 (vr 117),de P "__doc__" 323 (vn)] 2 }
def o80 (P:Params):Obj:={ cls:=vt "type",data:=Data.cls { name:=u "BadValue",bases:=[vr 39],mro:=[vr 119,vr 39,vt "ValueError",vt "Exception",vt "BaseException",vt "object"],ns:=118,qualname:=u "BadValue" },slots:=#[some (vr 103),none,some (vs "BadValue" 301),some (vs "BadValue" 309),some (Value.builtin "ValueError.__new__"),some (vb)] }
def o81 (P:Params):Obj:={ cls:=vt "super",data:=Data.fields #[vr 119,vr 119,vr 119] }
def o82 (P:Params):Obj:={ cls:=vt "builtin_function_or_method",data:=Data.fields #[Value.builtin "object.__init_subclass__",vr 119] }
def o83 (P:Params):Obj:=ot #[vt "LookupError"]
def o84 (P:Params):Obj:={ cls:=vt "dict",data:=Data.dict #[de P "__module__" 333 (vs "lanescribe.errors" 194),de P "__qualname__" 335 (vs "Missing" 334),de P "__firstlineno__" 337 (vi 27 336),de P "__init__" 348 (vr 136),de P "__static_attributes__" 350 (vr 137)] 5 }
def o85 (P:Params):Obj:={ cls:=vn,data:=Data.fields #[vi 29 0,vi 4 0,vr 135] }
def o86 (P:Params):Obj:=oc #[vs "Missing" 328,vs "Missing" 329,vf 330,vi 27 0,vi 0 0,vi 0 0,vi 0 0,vi 0 0,vr 125,Value.bool false,vi 181 0,vr 126,vn,vn,vn,vn,vi 331 0,vi 27 0,vf 332]
def o87 (P:Params):Obj:={ cls:=vt "frame",slots:=#[some (vr 127),some (vr 3),some (vr 124),none,some (vs "lanescribe.errors" 194),none,some (vr 0)] }
def o88 (P:Params):Obj:=ot #[vs "" 338,vs "missing" 339]
def o89 (P:Params):Obj:=ot #[vs "self" 343,vs "words" 344,vs "word" 345]
def o90 (P:Params):Obj:={ cls:=vn,data:=Data.func { name:=u "__init__",qualname:=u "Missing.__init__",params:=MA 7 0,body:=FuncBody.stmts (MB 7 0),scope:=MS 7 0,globals:=0,closure:=[],defaults:=vn,kwdefaults:=vn } }
def o91 (P:Params):Obj:=oc #[vs "__init__" 340,vs "Missing.__init__" 341,vf 342,vi 29 0,vi 3 0,vi 0 0,vi 0 0,vi 3 0,vr 130,vb,vi 181 0,vr 131,vn,vr 132,vr 133,vr 134,vi 346 0,vi 29 0,vf 347]
def o92 (P:Params):Obj:=of "__init__" "Missing.__init__" (MA 7 0) (MB 7 0) (MS 7 0) (vr 129) (vs "lanescribe.errors" 194) (vr 135)
def o93 (P:Params):Obj:=ot #[vs "word" 349]
def o94 (P:Params):Obj:={ cls:=vt "dict",data:=Data.dict #[de P "__module__" 333 (vs "lanescribe.errors" 194),de P "__firstlineno__" 337 (vi 27 336),de P "__init__" 348 (vr 136),de P "__static_attributes__" 350 (vr 137),de P "__weakref__" 352 (vr 140),de P "__doc__" 353 (vn)] 3 }
def o95 (P:Params):Obj:={ cls:=vt "type",data:=Data.cls { name:=u "Missing",bases:=[vt "LookupError"],mro:=[vr 139,vt "LookupError",vt "Exception",vt "BaseException",vt "object"],ns:=138,qualname:=u "Missing" },slots:=#[some (vr 122),none,some (vs "Missing" 326),some (vs "Missing" 334),some (Value.builtin "LookupError.__new__"),some (vb)] }
def o96 (P:Params):Obj:={ cls:=vt "getset_descriptor",data:=Data.fields #[vs "__weakref__" 351,vr 139,Value.builtin "ExceptionGroup.__weakref__",vn] }
def o97 (P:Params):Obj:={ cls:=vt "super",data:=Data.fields #[vr 139,vr 139,vr 139] }
def o98 (P:Params):Obj:={ cls:=vt "builtin_function_or_method",data:=Data.fields #[Value.builtin "object.__init_subclass__",vr 139] }
def h_c8 (P:Params):Heap:=⟨⟨boot_o_0 P::boot_o_1 P::boot_o_2 P::o54 P::boot_o_4 P::boot_o_5 P::boot_o_6 P::boot_o_7 P::boot_o_8 P::boot_o_9 P::boot_o_10 P::o0 P::o55 P::o2 P::o3 P::o0 P::o1 P::o6 P::o0 P::o7 P::o8 P::o9 P::o10 P::o11 P::o12 P::o0 P::o13 P::o14 P::o15 P::o16 P::o0 P::o1 P::o17 P::o0 P::o18 P::o19 P::o20 P::o21 P::o22 P::o56 P::o24 P::o25 P::o26 P::o27 P::o11 P::o28 P::o0 P::o29 P::o30 P::o31 P::o32 P::o0 P::o1 P::o33 P::o0 P::o34 P::o35 P::o36 P::o0 P::o37 P::o38 P::o39 P::o40 P::o27 P::o11 P::o41 P::o0 P::o42 P::o43 P::o44 P::o45 P::o0 P::o1 P::o46 P::o0 P::o47 P::o48 P::o49 P::o0 P::o50 P::o51 P::o52 P::o53 P::o27 P::o11 P::o57 P::o0 P::o58 P::o59 P::o60 P::o61 P::o0 P::o1 P::o62 P::o0 P::o63 P::o64 P::o65 P::o0 P::o66 P::o67 P::o68 P::o69 P::o27 P::o11 P::o70 P::o0 P::o71 P::o72 P::o73 P::o0 P::o1 P::o74 P::o0 P::o75 P::o76 P::o77 P::o78 P::o79 P::o80 P::o81 P::o82 P::o83 P::o11 P::o84 P::o0 P::o85 P::o86 P::o87 P::o88 P::o0 P::o1 P::o89 P::o0 P::o90 P::o91 P::o92 P::o93 P::o94 P::o95 P::o96 P::o97 P::o98 P::[]⟩,{ }⟩
abbrev S_c8 (w:World) (os:OsState):Shared:=⟨h_c8 w.params,Array.mk [],{ },356,os⟩
abbrev p_c8:Pos:={ line:=27,col:=0,endLine:=31,endCol:=24 }
abbrev l_8:List Stmt:=((behindTheImports pp).drop 5).take 3
theorem r_8 (w:World) (os:OsState):segRun treeTable pp w 11 an 1 714 (S_c5 w os) (piecesOf l_8 env cd p_c5 [topFrame fp])=some (.next,S_c8 w os,cd,p_c8):=by (revert w os;refine (byRow2 "special-get-raises" ?_ ?_:∀ w,_) <;> (intro w os;kernel_rfl))
def o99 (P:Params):Obj:={ cls:=vt "dict",data:=Data.dict #[de P "__name__" 165 (vs "lanescribe.tallies" 434),de P "__doc__" 166 (vn),de P "__package__" 167 (vn),de P "__loader__" 168 (Value.builtin "__main__.__loader__#opaque"),de P "__spec__" 169 (vn),de P "__annotations__" 170 (vr 6),de P "__builtins__" 171 (vr 4),de P "__file__" 173 (vf 172),de P "__cached__" 174 (vn),de P "_wall" 193 (vr 21),de P "ScribeError" 225 (vr 39),de P "BadTest" 250 (vr 60),de P "BadSize" 275 (vr 80),de P "BadKeys" 300 (vr 100),de P "BadValue" 325 (vr 119),de P "Missing" 355 (vr 139),de P "LIMIT" 359 (vi 999999 358),de P "MOST_LETTERS" 361 (vi 8 360),de P "is_name" 368 (vr 149),de P "MOST_PARTS" 372 (vi 15 371),de P "MOST_DEEP" 374 (vi 5 373),de P "WITHIN" 384 (vr 150),de P "SIGN_OF" 391 (vr 151),de P "is_word" 398 (vr 158),de P "is_number" 405 (vr 165),de P "is_leaf" 413 (vr 172),de P "count_parts" 419 (vr 177),de P "is_test" 426 (vr 184),de P "need_test" 433 (vr 191),de P "MOST_KEYS" 437 (vi 16 436),de P "KEYS_LIMIT" 439 (vi 64 438),de P "MOST_NAMED" 441 (vi 4 440),de P "need_keys" 450 (vr 198),de P "Tally" 523 (vr 251)] 34 }
def o100 (P:Params):Obj:={ cls:=vn,data:=Data.fields #[vi 1 0,vi 0 0,vr 20,vi 5 0,vi 0 0,vr 27,vi 10 0,vi 0 0,vr 48,vi 14 0,vi 0 0,vr 68,vi 18 0,vi 0 0,vr 88,vi 22 0,vi 0 0,vr 108,vi 27 0,vi 0 0,vr 127,vi 35 0,vi 0 0,vr 148,vi 42 0,vi 0 0,vr 157,vi 44 0,vi 0 0,vr 164,vi 46 0,vi 0 0,vr 171,vi 53 0,vi 0 0,vr 176,vi 62 0,vi 0 0,vr 183,vi 64 0,vi 0 0,vr 190,vi 71 0,vi 0 0,vr 197,vi 77 0,vi 0 0,vr 204] }
def o101 (P:Params):Obj:=ot #[vs "text" 365]
def o102 (P:Params):Obj:={ cls:=vn,data:=Data.func { name:=u "is_name",qualname:=u "is_name",params:=TA 11,body:=FuncBody.stmts (TB 11),scope:=TS 11,globals:=0,closure:=[],defaults:=vn,kwdefaults:=vn } }
def o103 (P:Params):Obj:=oc #[vs "is_name" 362,vs "is_name" 363,vf 364,vi 35 0,vi 1 0,vi 0 0,vi 0 0,vi 3 0,vr 143,vb,vi 181 0,vr 144,vn,vr 145,vr 146,vr 147,vi 366 0,vi 35 0,vf 367]
def o104 (P:Params):Obj:=of "is_name" "is_name" (TA 11) (TB 11) (TS 11) vn (vs "lanescribe.kinds" 356) (vr 148)
def o105 (P:Params):Obj:={ cls:=vt "dict",data:=Data.dict #[de P "not" 375 (vi 1 376),de P "and" 377 (vi 2 378),de P "or" 379 (vi 2 380)] 3 }
def o106 (P:Params):Obj:={ cls:=vt "dict",data:=Data.dict #[de P "less" 385 (vs "<" 386),de P "same" 387 (vs "=" 388)] 2 }
def o107 (P:Params):Obj:=ot #[vs "thing" 395]
def o108 (P:Params):Obj:={ cls:=vn,data:=Data.func { name:=u "is_word",qualname:=u "is_word",params:=TA 17,body:=FuncBody.stmts (TB 17),scope:=TS 17,globals:=0,closure:=[],defaults:=vn,kwdefaults:=vn } }
def o109 (P:Params):Obj:=oc #[vs "is_word" 392,vs "is_word" 393,vf 394,vi 42 0,vi 1 0,vi 0 0,vi 0 0,vi 3 0,vr 152,vb,vi 181 0,vr 153,vn,vr 154,vr 155,vr 156,vi 396 0,vi 42 0,vf 397]
def o110 (P:Params):Obj:=of "is_word" "is_word" (TA 17) (TB 17) (TS 17) vn (vs "lanescribe.sieve" 369) (vr 157)
def o111 (P:Params):Obj:=ot #[vs "thing" 402]
def o112 (P:Params):Obj:={ cls:=vn,data:=Data.func { name:=u "is_number",qualname:=u "is_number",params:=TA 18,body:=FuncBody.stmts (TB 18),scope:=TS 18,globals:=0,closure:=[],defaults:=vn,kwdefaults:=vn } }
def o113 (P:Params):Obj:=oc #[vs "is_number" 399,vs "is_number" 400,vf 401,vi 44 0,vi 1 0,vi 0 0,vi 0 0,vi 3 0,vr 159,vb,vi 181 0,vr 160,vn,vr 161,vr 162,vr 163,vi 403 0,vi 44 0,vf 404]
def o114 (P:Params):Obj:=of "is_number" "is_number" (TA 18) (TB 18) (TS 18) vn (vs "lanescribe.sieve" 369) (vr 164)
def o115 (P:Params):Obj:=ot #[vs "test" 409,vs "form" 410]
def o116 (P:Params):Obj:={ cls:=vn,data:=Data.func { name:=u "is_leaf",qualname:=u "is_leaf",params:=TA 19,body:=FuncBody.stmts (TB 19),scope:=TS 19,globals:=0,closure:=[],defaults:=vn,kwdefaults:=vn } }
def o117 (P:Params):Obj:=oc #[vs "is_leaf" 406,vs "is_leaf" 407,vf 408,vi 46 0,vi 1 0,vi 0 0,vi 0 0,vi 3 0,vr 166,vb,vi 181 0,vr 167,vn,vr 168,vr 169,vr 170,vi 411 0,vi 46 0,vf 412]
def o118 (P:Params):Obj:=of "is_leaf" "is_leaf" (TA 19) (TB 19) (TS 19) vn (vs "lanescribe.sieve" 369) (vr 171)
def o119 (P:Params):Obj:={ cls:=vn,data:=Data.func { name:=u "count_parts",qualname:=u "count_parts",params:=TA 20,body:=FuncBody.stmts (TB 20),scope:=TS 20,globals:=0,closure:=[],defaults:=vn,kwdefaults:=vn } }
def o120 (P:Params):Obj:=oc #[vs "count_parts" 414,vs "count_parts" 415,vf 416,vi 53 0,vi 2 0,vi 0 0,vi 0 0,vi 3 0,vr 173,vb,vi 181 0,vr 174,vn,vn,vn,vr 175,vi 417 0,vi 53 0,vf 418]
def o121 (P:Params):Obj:=of "count_parts" "count_parts" (TA 20) (TB 20) (TS 20) vn (vs "lanescribe.sieve" 369) (vr 176)
def o122 (P:Params):Obj:=ot #[vs "test" 423]
def o123 (P:Params):Obj:={ cls:=vn,data:=Data.func { name:=u "is_test",qualname:=u "is_test",params:=TA 21,body:=FuncBody.stmts (TB 21),scope:=TS 21,globals:=0,closure:=[],defaults:=vn,kwdefaults:=vn } }
def o124 (P:Params):Obj:=oc #[vs "is_test" 420,vs "is_test" 421,vf 422,vi 62 0,vi 1 0,vi 0 0,vi 0 0,vi 3 0,vr 178,vb,vi 181 0,vr 179,vn,vr 180,vr 181,vr 182,vi 424 0,vi 62 0,vf 425]
def o125 (P:Params):Obj:=of "is_test" "is_test" (TA 21) (TB 21) (TS 21) vn (vs "lanescribe.sieve" 369) (vr 183)
def o126 (P:Params):Obj:=ot #[vs "test" 430]
def o127 (P:Params):Obj:={ cls:=vn,data:=Data.func { name:=u "need_test",qualname:=u "need_test",params:=TA 22,body:=FuncBody.stmts (TB 22),scope:=TS 22,globals:=0,closure:=[],defaults:=vn,kwdefaults:=vn } }
def o128 (P:Params):Obj:=oc #[vs "need_test" 427,vs "need_test" 428,vf 429,vi 64 0,vi 1 0,vi 0 0,vi 0 0,vi 3 0,vr 185,vb,vi 181 0,vr 186,vn,vr 187,vr 188,vr 189,vi 431 0,vi 64 0,vf 432]
def o129 (P:Params):Obj:=of "need_test" "need_test" (TA 22) (TB 22) (TS 22) vn (vs "lanescribe.sieve" 369) (vr 190)
def o130 (P:Params):Obj:=ot #[vs "keys" 445,vs "at" 446,vs "name" 447]
def o131 (P:Params):Obj:={ cls:=vn,data:=Data.func { name:=u "need_keys",qualname:=u "need_keys",params:=TA 27,body:=FuncBody.stmts (TB 27),scope:=TS 27,globals:=0,closure:=[],defaults:=vn,kwdefaults:=vn } }
def o132 (P:Params):Obj:=oc #[vs "need_keys" 442,vs "need_keys" 443,vf 444,vi 71 0,vi 1 0,vi 0 0,vi 0 0,vi 3 0,vr 192,vb,vi 181 0,vr 193,vn,vr 194,vr 195,vr 196,vi 448 0,vi 71 0,vf 449]
def o133 (P:Params):Obj:=of "need_keys" "need_keys" (TA 27) (TB 27) (TS 27) vn (vs "lanescribe.tallies" 434) (vr 197)
def o134 (P:Params):Obj:={ cls:=vt "dict",data:=Data.dict #[de P "__module__" 458 (vs "lanescribe.tallies" 434),de P "__qualname__" 460 (vs "Tally" 459),de P "__firstlineno__" 462 (vi 77 461),de P "__init__" 473 (vr 213),de P "note" 482 (vr 220),de P "table" 489 (vr 227),de P "dropped" 496 (vr 234),de P "twin" 503 (vr 241),de P "__len__" 510 (vr 248),de P "__static_attributes__" 516 (vr 249)] 10 }
def o135 (P:Params):Obj:={ cls:=vn,data:=Data.fields #[vi 79 0,vi 4 0,vr 212,vi 90 0,vi 4 0,vr 219,vi 93 0,vi 4 0,vr 226,vi 96 0,vi 4 0,vr 233,vi 99 0,vi 4 0,vr 240,vi 102 0,vi 4 0,vr 247] }
def o136 (P:Params):Obj:=oc #[vs "Tally" 453,vs "Tally" 454,vf 455,vi 77 0,vi 0 0,vi 0 0,vi 0 0,vi 0 0,vr 202,Value.bool false,vi 181 0,vr 203,vn,vn,vn,vn,vi 456 0,vi 77 0,vf 457]
def o137 (P:Params):Obj:={ cls:=vt "frame",slots:=#[some (vr 204),some (vr 3),some (vr 201),none,some (vs "lanescribe.tallies" 434),none,some (vr 0)] }
def o138 (P:Params):Obj:={ cls:=vt "dict",data:=Data.dict #[de P "most" 463 (vi 16 436)] 1 }
def o139 (P:Params):Obj:=ot #[vs "self" 467,vs "test" 468,vs "keys" 469,vs "most" 470]
def o140 (P:Params):Obj:={ cls:=vn,data:=Data.func { name:=u "__init__",qualname:=u "Tally.__init__",params:=MA 28 0,body:=FuncBody.stmts (MB 28 0),scope:=MS 28 0,globals:=0,closure:=[],defaults:=vn,kwdefaults:=vn } }
def o141 (P:Params):Obj:=oc #[vs "__init__" 464,vs "Tally.__init__" 465,vf 466,vi 79 0,vi 3 0,vi 0 0,vi 1 0,vi 3 0,vr 207,vb,vi 181 0,vr 208,vn,vr 209,vr 210,vr 211,vi 471 0,vi 79 0,vf 472]
def o142 (P:Params):Obj:={ cls:=vt "function",data:=Data.func { name:=u "__init__",qualname:=u "Tally.__init__",params:=MA 28 0,body:=FuncBody.stmts (MB 28 0),scope:=MS 28 0,globals:=3,closure:=[],defaults:=vn,kwdefaults:=vr 206,pyModule:=vs "lanescribe.tallies" 434,code:=vr 212 } }
def o143 (P:Params):Obj:=ot #[vs "self" 477,vs "kind" 478,vs "values" 479]
def o144 (P:Params):Obj:={ cls:=vn,data:=Data.func { name:=u "note",qualname:=u "Tally.note",params:=MA 28 1,body:=FuncBody.stmts (MB 28 1),scope:=MS 28 1,globals:=0,closure:=[],defaults:=vn,kwdefaults:=vn } }
def o145 (P:Params):Obj:=oc #[vs "note" 474,vs "Tally.note" 475,vf 476,vi 90 0,vi 3 0,vi 0 0,vi 0 0,vi 3 0,vr 214,vb,vi 181 0,vr 215,vn,vr 216,vr 217,vr 218,vi 480 0,vi 90 0,vf 481]
def o146 (P:Params):Obj:=of "note" "Tally.note" (MA 28 1) (MB 28 1) (MS 28 1) vn (vs "lanescribe.tallies" 434) (vr 219)
def o147 (P:Params):Obj:=ot #[vs "self" 486]
def o148 (P:Params):Obj:={ cls:=vn,data:=Data.func { name:=u "table",qualname:=u "Tally.table",params:=MA 28 2,body:=FuncBody.stmts (MB 28 2),scope:=MS 28 2,globals:=0,closure:=[],defaults:=vn,kwdefaults:=vn } }
def o149 (P:Params):Obj:=oc #[vs "table" 483,vs "Tally.table" 484,vf 485,vi 93 0,vi 1 0,vi 0 0,vi 0 0,vi 3 0,vr 221,vb,vi 181 0,vr 222,vn,vr 223,vr 224,vr 225,vi 487 0,vi 93 0,vf 488]
def o150 (P:Params):Obj:=of "table" "Tally.table" (MA 28 2) (MB 28 2) (MS 28 2) vn (vs "lanescribe.tallies" 434) (vr 226)
def o151 (P:Params):Obj:=ot #[vs "self" 493]
def o152 (P:Params):Obj:={ cls:=vn,data:=Data.func { name:=u "dropped",qualname:=u "Tally.dropped",params:=MA 28 3,body:=FuncBody.stmts (MB 28 3),scope:=MS 28 3,globals:=0,closure:=[],defaults:=vn,kwdefaults:=vn } }
def o153 (P:Params):Obj:=oc #[vs "dropped" 490,vs "Tally.dropped" 491,vf 492,vi 96 0,vi 1 0,vi 0 0,vi 0 0,vi 3 0,vr 228,vb,vi 181 0,vr 229,vn,vr 230,vr 231,vr 232,vi 494 0,vi 96 0,vf 495]
def o154 (P:Params):Obj:=of "dropped" "Tally.dropped" (MA 28 3) (MB 28 3) (MS 28 3) vn (vs "lanescribe.tallies" 434) (vr 233)
def o155 (P:Params):Obj:=ot #[vs "self" 500]
def o156 (P:Params):Obj:={ cls:=vn,data:=Data.func { name:=u "twin",qualname:=u "Tally.twin",params:=MA 28 4,body:=FuncBody.stmts (MB 28 4),scope:=MS 28 4,globals:=0,closure:=[],defaults:=vn,kwdefaults:=vn } }
def o157 (P:Params):Obj:=oc #[vs "twin" 497,vs "Tally.twin" 498,vf 499,vi 99 0,vi 1 0,vi 0 0,vi 0 0,vi 3 0,vr 235,vb,vi 181 0,vr 236,vn,vr 237,vr 238,vr 239,vi 501 0,vi 99 0,vf 502]
def o158 (P:Params):Obj:=of "twin" "Tally.twin" (MA 28 4) (MB 28 4) (MS 28 4) vn (vs "lanescribe.tallies" 434) (vr 240)
def o159 (P:Params):Obj:=ot #[vs "self" 507]
def o160 (P:Params):Obj:={ cls:=vn,data:=Data.func { name:=u "__len__",qualname:=u "Tally.__len__",params:=MA 28 5,body:=FuncBody.stmts (MB 28 5),scope:=MS 28 5,globals:=0,closure:=[],defaults:=vn,kwdefaults:=vn } }
def o161 (P:Params):Obj:=oc #[vs "__len__" 504,vs "Tally.__len__" 505,vf 506,vi 102 0,vi 1 0,vi 0 0,vi 0 0,vi 3 0,vr 242,vb,vi 181 0,vr 243,vn,vr 244,vr 245,vr 246,vi 508 0,vi 102 0,vf 509]
def o162 (P:Params):Obj:=of "__len__" "Tally.__len__" (MA 28 5) (MB 28 5) (MS 28 5) vn (vs "lanescribe.tallies" 434) (vr 247)
def o163 (P:Params):Obj:=ot #[vs "beyond" 511,vs "counted" 512,vs "most" 513,vs "named" 514,vs "test" 515]
def o164 (P:Params):Obj:={ cls:=vt "dict",data:=Data.dict #[de P "__module__" 458 (vs "lanescribe.tallies" 434),de P "__firstlineno__" 462 (vi 77 461),de P "__init__" 473 (vr 213),de P "note" 482 (vr 220),de P "table" 489 (vr 227),de P "dropped" 496 (vr 234),de P "twin" 503 (vr 241),de P "__len__" 510 (vr 248),de P "__static_attributes__" 516 (vr 249),de P "__dict__" 518 (vr 252),de P "__weakref__" 520 (vr 253),de P "__doc__" 521 (vn)] 4 }
def o165 (P:Params):Obj:={ cls:=vt "type",data:=Data.cls { name:=u "Tally",bases:=[vt "object"],mro:=[vr 251,vt "object"],ns:=250,qualname:=u "Tally" },slots:=#[none,none,some (vs "Tally" 451),some (vs "Tally" 459),some (Value.builtin "object.__new__"),some (vb)] }
def o166 (P:Params):Obj:={ cls:=vt "getset_descriptor",data:=Data.fields #[vs "__dict__" 517,vr 251,Value.builtin "function.__dict__",Value.builtin "function.__dict__#set"] }
def o167 (P:Params):Obj:={ cls:=vt "getset_descriptor",data:=Data.fields #[vs "__weakref__" 519,vr 251,Value.builtin "ExceptionGroup.__weakref__",vn] }
def o168 (P:Params):Obj:={ cls:=vt "super",data:=Data.fields #[vr 251,vr 251,vr 251] }
def o169 (P:Params):Obj:={ cls:=vt "builtin_function_or_method",data:=Data.fields #[Value.builtin "object.__init_subclass__",vr 251] }
def h_c29 (P:Params):Heap:=⟨⟨boot_o_0 P::boot_o_1 P::boot_o_2 P::o99 P::boot_o_4 P::boot_o_5 P::boot_o_6 P::boot_o_7 P::boot_o_8 P::boot_o_9 P::boot_o_10 P::o0 P::o100 P::o2 P::o3 P::o0 P::o1 P::o6 P::o0 P::o7 P::o8 P::o9 P::o10 P::o11 P::o12 P::o0 P::o13 P::o14 P::o15 P::o16 P::o0 P::o1 P::o17 P::o0 P::o18 P::o19 P::o20 P::o21 P::o22 P::o56 P::o24 P::o25 P::o26 P::o27 P::o11 P::o28 P::o0 P::o29 P::o30 P::o31 P::o32 P::o0 P::o1 P::o33 P::o0 P::o34 P::o35 P::o36 P::o0 P::o37 P::o38 P::o39 P::o40 P::o27 P::o11 P::o41 P::o0 P::o42 P::o43 P::o44 P::o45 P::o0 P::o1 P::o46 P::o0 P::o47 P::o48 P::o49 P::o0 P::o50 P::o51 P::o52 P::o53 P::o27 P::o11 P::o57 P::o0 P::o58 P::o59 P::o60 P::o61 P::o0 P::o1 P::o62 P::o0 P::o63 P::o64 P::o65 P::o0 P::o66 P::o67 P::o68 P::o69 P::o27 P::o11 P::o70 P::o0 P::o71 P::o72 P::o73 P::o0 P::o1 P::o74 P::o0 P::o75 P::o76 P::o77 P::o78 P::o79 P::o80 P::o81 P::o82 P::o83 P::o11 P::o84 P::o0 P::o85 P::o86 P::o87 P::o88 P::o0 P::o1 P::o89 P::o0 P::o90 P::o91 P::o92 P::o93 P::o94 P::o95 P::o96 P::o97 P::o98 P::o0 P::o1 P::o101 P::o0 P::o102 P::o103 P::o104 P::o105 P::o106 P::o0 P::o1 P::o107 P::o0 P::o108 P::o109 P::o110 P::o0 P::o1 P::o111 P::o0 P::o112 P::o113 P::o114 P::o0 P::o1 P::o115 P::o0 P::o116 P::o117 P::o118 P::o0 P::o1 P::o119 P::o120 P::o121 P::o0 P::o1 P::o122 P::o0 P::o123 P::o124 P::o125 P::o0 P::o1 P::o126 P::o0 P::o127 P::o128 P::o129 P::o0 P::o1 P::o130 P::o0 P::o131 P::o132 P::o133 P::o0 P::o11 P::o134 P::o0 P::o135 P::o136 P::o137 P::o138 P::o0 P::o1 P::o139 P::o0 P::o140 P::o141 P::o142 P::o0 P::o1 P::o143 P::o0 P::o144 P::o145 P::o146 P::o0 P::o1 P::o147 P::o0 P::o148 P::o149 P::o150 P::o0 P::o1 P::o151 P::o0 P::o152 P::o153 P::o154 P::o0 P::o1 P::o155 P::o0 P::o156 P::o157 P::o158 P::o0 P::o1 P::o159 P::o0 P::o160 P::o161 P::o162 P::o163 P::o164 P::o165 P::o166 P::o167 P::o168 P::o169 P::[]⟩,{ }⟩
abbrev S_c29 (w:World) (os:OsState):Shared:=⟨h_c29 w.params,Array.mk [],{ },524,os⟩
abbrev p_c29:Pos:={ line:=77,col:=0,endLine:=103,endCol:=32 }
abbrev l_29:List Stmt:=((behindTheImports pp).drop 8).take 21
theorem r_29 (w:World) (os:OsState):segRun treeTable pp w 11 an 1 812 (S_c8 w os) (piecesOf l_29 env cd p_c8 [topFrame fp])=some (.next,S_c29 w os,cd,p_c29):=by (revert w os;refine (byRow2 "special-get-raises" ?_ ?_:∀ w,_) <;> (intro w os;kernel_rfl))
def o170 (P:Params):Obj:={ cls:=vt "dict",data:=Data.dict #[de P "__name__" 165 (vs "law_lanescribe_k23_tallies_refused" 524),de P "__doc__" 166 (vn),de P "__package__" 167 (vn),de P "__loader__" 168 (Value.builtin "__main__.__loader__#opaque"),de P "__spec__" 169 (vn),de P "__annotations__" 170 (vr 6),de P "__builtins__" 171 (vr 4),de P "__file__" 173 (vf 172),de P "__cached__" 174 (vn),de P "_wall" 193 (vr 21),de P "ScribeError" 225 (vr 39),de P "BadTest" 250 (vr 60),de P "BadSize" 275 (vr 80),de P "BadKeys" 300 (vr 100),de P "BadValue" 325 (vr 119),de P "Missing" 355 (vr 139),de P "LIMIT" 359 (vi 999999 358),de P "MOST_LETTERS" 361 (vi 8 360),de P "is_name" 368 (vr 149),de P "MOST_PARTS" 372 (vi 15 371),de P "MOST_DEEP" 374 (vi 5 373),de P "WITHIN" 384 (vr 150),de P "SIGN_OF" 391 (vr 151),de P "is_word" 398 (vr 158),de P "is_number" 405 (vr 165),de P "is_leaf" 413 (vr 172),de P "count_parts" 419 (vr 177),de P "is_test" 426 (vr 184),de P "need_test" 433 (vr 191),de P "MOST_KEYS" 437 (vi 16 436),de P "KEYS_LIMIT" 439 (vi 64 438),de P "MOST_NAMED" 441 (vi 4 440),de P "need_keys" 450 (vr 198),de P "Tally" 523 (vr 251),de P "_law_begin" 534 (vr 262),de P "_law_pick" 545 (vr 269),de P "_law_of" 553 (vr 276),de P "_law_far" 561 (vr 283),de P "_law_same" 567 (vr 288),de P "_law_word" 573 (vr 293),de P "_law_words" 585 (vr 300),de P "_law_is_name" 591 (vr 305),de P "_law_ask" 601 (vr 312),de P "_law_odd_name" 610 (vr 319),de P "_law_number" 617 (vr 326)] 45 }
def o171 (P:Params):Obj:={ cls:=vn,data:=Data.fields #[vi 1 0,vi 0 0,vr 20,vi 5 0,vi 0 0,vr 27,vi 10 0,vi 0 0,vr 48,vi 14 0,vi 0 0,vr 68,vi 18 0,vi 0 0,vr 88,vi 22 0,vi 0 0,vr 108,vi 27 0,vi 0 0,vr 127,vi 35 0,vi 0 0,vr 148,vi 42 0,vi 0 0,vr 157,vi 44 0,vi 0 0,vr 164,vi 46 0,vi 0 0,vr 171,vi 53 0,vi 0 0,vr 176,vi 62 0,vi 0 0,vr 183,vi 64 0,vi 0 0,vr 190,vi 71 0,vi 0 0,vr 197,vi 77 0,vi 0 0,vr 204,vi 105 0,vi 0 0,vr 261,vi 110 0,vi 0 0,vr 268,vi 125 0,vi 0 0,vr 275,vi 127 0,vi 0 0,vr 282,vi 130 0,vi 0 0,vr 287,vi 140 0,vi 0 0,vr 292,vi 146 0,vi 0 0,vr 299,vi 155 0,vi 0 0,vr 304,vi 157 0,vi 0 0,vr 311,vi 169 0,vi 0 0,vr 318,vi 172 0,vi 0 0,vr 325] }
def o172 (P:Params):Obj:=ot #[vs "_law_script" 529,vs "_law_seed" 530,vs "_law_cell" 531]
def o173 (P:Params):Obj:={ cls:=vn,data:=Data.func { name:=u "_law_begin",qualname:=u "_law_begin",params:=TA 30,body:=FuncBody.stmts (TB 30),scope:=TS 30,globals:=0,closure:=[],defaults:=vn,kwdefaults:=vn } }
def o174 (P:Params):Obj:=oc #[vs "_law_begin" 526,vs "_law_begin" 527,vf 528,vi 105 0,vi 1 0,vi 0 0,vi 0 0,vi 3 0,vr 256,vb,vi 181 0,vr 257,vn,vr 258,vr 259,vr 260,vi 532 0,vi 105 0,vf 533]
def o175 (P:Params):Obj:=of "_law_begin" "_law_begin" (TA 30) (TB 30) (TS 30) vn (vs "law_lanescribe_k23_tallies_refused" 524) (vr 261)
def o176 (P:Params):Obj:=ot #[vs "_law_d" 538,vs "_law_many" 539,vs "_law_cell" 540,vs "_law_digit" 541,vs "_law_one" 542]
def o177 (P:Params):Obj:={ cls:=vn,data:=Data.func { name:=u "_law_pick",qualname:=u "_law_pick",params:=TA 31,body:=FuncBody.stmts (TB 31),scope:=TS 31,globals:=0,closure:=[],defaults:=vn,kwdefaults:=vn } }
def o178 (P:Params):Obj:=oc #[vs "_law_pick" 535,vs "_law_pick" 536,vf 537,vi 110 0,vi 2 0,vi 0 0,vi 0 0,vi 3 0,vr 263,vb,vi 181 0,vr 264,vn,vr 265,vr 266,vr 267,vi 543 0,vi 110 0,vf 544]
def o179 (P:Params):Obj:=of "_law_pick" "_law_pick" (TA 31) (TB 31) (TS 31) vn (vs "law_lanescribe_k23_tallies_refused" 524) (vr 268)
def o180 (P:Params):Obj:=ot #[vs "_law_d" 549,vs "_law_things" 550]
def o181 (P:Params):Obj:={ cls:=vn,data:=Data.func { name:=u "_law_of",qualname:=u "_law_of",params:=TA 32,body:=FuncBody.stmts (TB 32),scope:=TS 32,globals:=0,closure:=[],defaults:=vn,kwdefaults:=vn } }
def o182 (P:Params):Obj:=oc #[vs "_law_of" 546,vs "_law_of" 547,vf 548,vi 125 0,vi 2 0,vi 0 0,vi 0 0,vi 3 0,vr 270,vb,vi 181 0,vr 271,vn,vr 272,vr 273,vr 274,vi 551 0,vi 125 0,vf 552]
def o183 (P:Params):Obj:=of "_law_of" "_law_of" (TA 32) (TB 32) (TS 32) vn (vs "law_lanescribe_k23_tallies_refused" 524) (vr 275)
def o184 (P:Params):Obj:=ot #[vs "_law_d" 557,vs "_law_number_here" 558]
def o185 (P:Params):Obj:={ cls:=vn,data:=Data.func { name:=u "_law_far",qualname:=u "_law_far",params:=TA 33,body:=FuncBody.stmts (TB 33),scope:=TS 33,globals:=0,closure:=[],defaults:=vn,kwdefaults:=vn } }
def o186 (P:Params):Obj:=oc #[vs "_law_far" 554,vs "_law_far" 555,vf 556,vi 127 0,vi 1 0,vi 0 0,vi 0 0,vi 3 0,vr 277,vb,vi 181 0,vr 278,vn,vr 279,vr 280,vr 281,vi 559 0,vi 127 0,vf 560]
def o187 (P:Params):Obj:=of "_law_far" "_law_far" (TA 33) (TB 33) (TS 33) vn (vs "law_lanescribe_k23_tallies_refused" 524) (vr 282)
def o188 (P:Params):Obj:={ cls:=vn,data:=Data.func { name:=u "_law_same",qualname:=u "_law_same",params:=TA 34,body:=FuncBody.stmts (TB 34),scope:=TS 34,globals:=0,closure:=[],defaults:=vn,kwdefaults:=vn } }
def o189 (P:Params):Obj:=oc #[vs "_law_same" 562,vs "_law_same" 563,vf 564,vi 130 0,vi 2 0,vi 0 0,vi 0 0,vi 3 0,vr 284,vb,vi 181 0,vr 285,vn,vn,vn,vr 286,vi 565 0,vi 130 0,vf 566]
def o190 (P:Params):Obj:=of "_law_same" "_law_same" (TA 34) (TB 34) (TS 34) vn (vs "law_lanescribe_k23_tallies_refused" 524) (vr 287)
def o191 (P:Params):Obj:={ cls:=vn,data:=Data.func { name:=u "_law_word",qualname:=u "_law_word",params:=TA 35,body:=FuncBody.stmts (TB 35),scope:=TS 35,globals:=0,closure:=[],defaults:=vn,kwdefaults:=vn } }
def o192 (P:Params):Obj:=oc #[vs "_law_word" 568,vs "_law_word" 569,vf 570,vi 140 0,vi 1 0,vi 0 0,vi 0 0,vi 3 0,vr 289,vb,vi 181 0,vr 290,vn,vn,vn,vr 291,vi 571 0,vi 140 0,vf 572]
def o193 (P:Params):Obj:=of "_law_word" "_law_word" (TA 35) (TB 35) (TS 35) vn (vs "law_lanescribe_k23_tallies_refused" 524) (vr 292)
def o194 (P:Params):Obj:=ot #[vs "_law_d" 577,vs "_law_many" 578,vs "_law_found" 579,vs "_law_k" 580,vs "_law_word_here" 581,vs "_law_step" 582]
def o195 (P:Params):Obj:={ cls:=vn,data:=Data.func { name:=u "_law_words",qualname:=u "_law_words",params:=TA 36,body:=FuncBody.stmts (TB 36),scope:=TS 36,globals:=0,closure:=[],defaults:=vn,kwdefaults:=vn } }
def o196 (P:Params):Obj:=oc #[vs "_law_words" 574,vs "_law_words" 575,vf 576,vi 146 0,vi 2 0,vi 0 0,vi 0 0,vi 3 0,vr 294,vb,vi 181 0,vr 295,vn,vr 296,vr 297,vr 298,vi 583 0,vi 146 0,vf 584]
def o197 (P:Params):Obj:=of "_law_words" "_law_words" (TA 36) (TB 36) (TS 36) vn (vs "law_lanescribe_k23_tallies_refused" 524) (vr 299)
def o198 (P:Params):Obj:={ cls:=vn,data:=Data.func { name:=u "_law_is_name",qualname:=u "_law_is_name",params:=TA 37,body:=FuncBody.stmts (TB 37),scope:=TS 37,globals:=0,closure:=[],defaults:=vn,kwdefaults:=vn } }
def o199 (P:Params):Obj:=oc #[vs "_law_is_name" 586,vs "_law_is_name" 587,vf 588,vi 155 0,vi 1 0,vi 0 0,vi 0 0,vi 3 0,vr 301,vb,vi 181 0,vr 302,vn,vn,vn,vr 303,vi 589 0,vi 155 0,vf 590]
def o200 (P:Params):Obj:=of "_law_is_name" "_law_is_name" (TA 37) (TB 37) (TS 37) vn (vs "law_lanescribe_k23_tallies_refused" 524) (vr 304)
def o201 (P:Params):Obj:=ot #[vs "_law_ask_here" 595,vs "_law_told" 596,vs "_law_word_here" 597,vs "e" 598]
def o202 (P:Params):Obj:={ cls:=vn,data:=Data.func { name:=u "_law_ask",qualname:=u "_law_ask",params:=TA 38,body:=FuncBody.stmts (TB 38),scope:=TS 38,globals:=0,closure:=[],defaults:=vn,kwdefaults:=vn } }
def o203 (P:Params):Obj:=oc #[vs "_law_ask" 592,vs "_law_ask" 593,vf 594,vi 157 0,vi 1 0,vi 0 0,vi 0 0,vi 3 0,vr 306,vb,vi 181 0,vr 307,vn,vr 308,vr 309,vr 310,vi 599 0,vi 157 0,vf 600]
def o204 (P:Params):Obj:=of "_law_ask" "_law_ask" (TA 38) (TB 38) (TS 38) vn (vs "law_lanescribe_k23_tallies_refused" 524) (vr 311)
def o205 (P:Params):Obj:=ot #[vs "_law_d" 605,vs "_law_text" 606,vs "_law_odd" 607]
def o206 (P:Params):Obj:={ cls:=vn,data:=Data.func { name:=u "_law_odd_name",qualname:=u "_law_odd_name",params:=TA 39,body:=FuncBody.stmts (TB 39),scope:=TS 39,globals:=0,closure:=[],defaults:=vn,kwdefaults:=vn } }
def o207 (P:Params):Obj:=oc #[vs "_law_odd_name" 602,vs "_law_odd_name" 603,vf 604,vi 169 0,vi 2 0,vi 0 0,vi 0 0,vi 3 0,vr 313,vb,vi 181 0,vr 314,vn,vr 315,vr 316,vr 317,vi 608 0,vi 169 0,vf 609]
def o208 (P:Params):Obj:=of "_law_odd_name" "_law_odd_name" (TA 39) (TB 39) (TS 39) vn (vs "law_lanescribe_k23_tallies_refused" 524) (vr 318)
def o209 (P:Params):Obj:=ot #[vs "_law_d" 614]
def o210 (P:Params):Obj:={ cls:=vn,data:=Data.func { name:=u "_law_number",qualname:=u "_law_number",params:=TA 40,body:=FuncBody.stmts (TB 40),scope:=TS 40,globals:=0,closure:=[],defaults:=vn,kwdefaults:=vn } }
def o211 (P:Params):Obj:=oc #[vs "_law_number" 611,vs "_law_number" 612,vf 613,vi 172 0,vi 1 0,vi 0 0,vi 0 0,vi 3 0,vr 320,vb,vi 181 0,vr 321,vn,vr 322,vr 323,vr 324,vi 615 0,vi 172 0,vf 616]
def o212 (P:Params):Obj:=of "_law_number" "_law_number" (TA 40) (TB 40) (TS 40) vn (vs "law_lanescribe_k23_tallies_refused" 524) (vr 325)
def h_c41 (P:Params):Heap:=⟨⟨boot_o_0 P::boot_o_1 P::boot_o_2 P::o170 P::boot_o_4 P::boot_o_5 P::boot_o_6 P::boot_o_7 P::boot_o_8 P::boot_o_9 P::boot_o_10 P::o0 P::o171 P::o2 P::o3 P::o0 P::o1 P::o6 P::o0 P::o7 P::o8 P::o9 P::o10 P::o11 P::o12 P::o0 P::o13 P::o14 P::o15 P::o16 P::o0 P::o1 P::o17 P::o0 P::o18 P::o19 P::o20 P::o21 P::o22 P::o56 P::o24 P::o25 P::o26 P::o27 P::o11 P::o28 P::o0 P::o29 P::o30 P::o31 P::o32 P::o0 P::o1 P::o33 P::o0 P::o34 P::o35 P::o36 P::o0 P::o37 P::o38 P::o39 P::o40 P::o27 P::o11 P::o41 P::o0 P::o42 P::o43 P::o44 P::o45 P::o0 P::o1 P::o46 P::o0 P::o47 P::o48 P::o49 P::o0 P::o50 P::o51 P::o52 P::o53 P::o27 P::o11 P::o57 P::o0 P::o58 P::o59 P::o60 P::o61 P::o0 P::o1 P::o62 P::o0 P::o63 P::o64 P::o65 P::o0 P::o66 P::o67 P::o68 P::o69 P::o27 P::o11 P::o70 P::o0 P::o71 P::o72 P::o73 P::o0 P::o1 P::o74 P::o0 P::o75 P::o76 P::o77 P::o78 P::o79 P::o80 P::o81 P::o82 P::o83 P::o11 P::o84 P::o0 P::o85 P::o86 P::o87 P::o88 P::o0 P::o1 P::o89 P::o0 P::o90 P::o91 P::o92 P::o93 P::o94 P::o95 P::o96 P::o97 P::o98 P::o0 P::o1 P::o101 P::o0 P::o102 P::o103 P::o104 P::o105 P::o106 P::o0 P::o1 P::o107 P::o0 P::o108 P::o109 P::o110 P::o0 P::o1 P::o111 P::o0 P::o112 P::o113 P::o114 P::o0 P::o1 P::o115 P::o0 P::o116 P::o117 P::o118 P::o0 P::o1 P::o119 P::o120 P::o121 P::o0 P::o1 P::o122 P::o0 P::o123 P::o124 P::o125 P::o0 P::o1 P::o126 P::o0 P::o127 P::o128 P::o129 P::o0 P::o1 P::o130 P::o0 P::o131 P::o132 P::o133 P::o0 P::o11 P::o134 P::o0 P::o135 P::o136 P::o137 P::o138 P::o0 P::o1 P::o139 P::o0 P::o140 P::o141 P::o142 P::o0 P::o1 P::o143 P::o0 P::o144 P::o145 P::o146 P::o0 P::o1 P::o147 P::o0 P::o148 P::o149 P::o150 P::o0 P::o1 P::o151 P::o0 P::o152 P::o153 P::o154 P::o0 P::o1 P::o155 P::o0 P::o156 P::o157 P::o158 P::o0 P::o1 P::o159 P::o0 P::o160 P::o161 P::o162 P::o163 P::o164 P::o165 P::o166 P::o167 P::o168 P::o169 P::o0 P::o1 P::o172 P::o0 P::o173 P::o174 P::o175 P::o0 P::o1 P::o176 P::o0 P::o177 P::o178 P::o179 P::o0 P::o1 P::o180 P::o0 P::o181 P::o182 P::o183 P::o0 P::o1 P::o184 P::o0 P::o185 P::o186 P::o187 P::o0 P::o1 P::o188 P::o189 P::o190 P::o0 P::o1 P::o191 P::o192 P::o193 P::o0 P::o1 P::o194 P::o0 P::o195 P::o196 P::o197 P::o0 P::o1 P::o198 P::o199 P::o200 P::o0 P::o1 P::o201 P::o0 P::o202 P::o203 P::o204 P::o0 P::o1 P::o205 P::o0 P::o206 P::o207 P::o208 P::o0 P::o1 P::o209 P::o0 P::o210 P::o211 P::o212 P::[]⟩,{ }⟩
abbrev S_c41 (w:World) (os:OsState):Shared:=⟨h_c41 w.params,Array.mk [],{ },618,os⟩
abbrev p_c41:Pos:={ line:=172,col:=0,endLine:=173,endCol:=139 }
abbrev l_41:List Stmt:=((behindTheImports pp).drop 29).take 12
theorem r_41 (w:World) (os:OsState):segRun treeTable pp w 11 an 1 338 (S_c29 w os) (piecesOf l_41 env cd p_c29 [topFrame fp])=some (.next,S_c41 w os,cd,p_c41):=by (revert w os;refine (byRow2 "special-get-raises" ?_ ?_:∀ w,_) <;> (intro w os;kernel_rfl))
abbrev l_z:List Stmt:=(behindTheImports pp).drop 41
theorem all_l:behindTheImports pp=(l_5++(l_8++(l_29++(l_41++l_z)))):=by kernel_rfl
theorem last (w:World) (os:OsState):((topRun treeTable pp w 11 an 796 (S_c41 w os) (restOf l_z env cd p_c41 [topFrame fp])).bind fun s₁=>match staticsOk (importedModules pp.main.body) (S_0 w os).heap s₁.heap && namesBound pp s₁.heap && gensDone s₁ && laidKept (S_0 w os).heap s₁.heap with
 |true=>some s₁
 |false=>none).map (fun s=>(openSeen vw ls (importedModules pp.main.body) Xt true s,hk.obs s))=some (openGood vw ls,hk.val w):=by (revert w os;refine (byRow2 "special-get-raises" ?_ ?_:∀ w,_) <;> (intro w os;kernel_rfl))
theorem chain (w:World) (os:OsState) (r:Shared) (h:topRun treeTable pp w 11 an 796 (S_c41 w os) (restOf l_z env cd p_c41 [topFrame fp])=some r):topRun treeTable pp w 11 an 3426 (S_0 w os) (topStub pp)=some r:=by
 have k:topRun treeTable pp w 11 an 3413 (S_b w os) (restOf (l_5++(l_8++(l_29++(l_41++l_z)))) env cd p_b [topFrame fp])=some r:=piece_app (r_5 w os) (piece_app (r_8 w os) (piece_app (r_29 w os) (piece_app (r_41 w os) (h))))
 rw [← all_l] at k
 exact go_top (n:=12) (N:=3414) (r_a w os) (piece_block (n:=1) (N:=3413) (r_b w os) k)
theorem run (w:World) (os:OsState):(topFrom treeTable pp w 3426 (S_0 w os)).map (fun s=>(openSeen vw ls (importedModules pp.main.body) Xt true s,hk.obs s))=some (openGood vw ls,hk.val w):=by_parts (s0:=S_0 w os) (by kernel_rfl) (by kernel_rfl) (by kernel_rfl) (chain w os) (last w os)
theorem left:LeftO (OpenRow.toRowW PySem.Challenge.rw_lanescribe_k23_tallies_refused.row).prog vw ls Xt hk.obs hk.val 3426:=left_boot openP (by decide) (fun s=>by kernel_rfl) run
theorem head (hw:(OpenRow.toRowW PySem.Challenge.rw_lanescribe_k23_tallies_refused.row).promised) {d:DefRec} {kwd:List (Str×Expr)} (hdef:defOf vw PySem.Challenge.rw_lanescribe_k23_tallies_refused.row.name=some (d,kwd)) (hp:PySem.Challenge.rw_lanescribe_k23_tallies_refused.row.prog.theDef PySem.Challenge.rw_lanescribe_k23_tallies_refused.row.name=some (d.params,d.body,d.scope)) (hk1:kwWritten? d.params.kwonlyargs d.params.kw_defaults=some kwd)
 (hc:WalkO vw ls (XL vw lv) (kmHook KK asK eK [387]).says (OpenRow.toRowW PySem.Challenge.rw_lanescribe_k23_tallies_refused.row) d kwd fun f vs=>PySem.call f vs):PySem.Challenge.rw_lanescribe_k23_tallies_refused.Holds:=
 holds_law said fun said'=>holds_open (q:=vw) (loose:=ls) (Xt:=Xt) (XP:=XL vw lv) (Yf:=hk.obs) (Ya:=hk.val) (YP:=hk.says) (N:=3426) left hk.of hk.keeps (fun s e=>xl_of s (Bool.and_eq_true_iff.mp e).1) XL.keeps hdef hp hk1 (fun s e=>recFacts_of (Bool.and_eq_true_iff.mp e).2) (by rfl) said' (by decide +kernel) ⟨rfl,rfl,rfl,rfl,rfl,by decide +kernel⟩ hw hc
end
end Kd
namespace L2
open PySem PySem.Spec PyProof.Rows
abbrev Key:=Sum Int Str
def keyIs:Key->Value->Bool
 |.inl k,v=>Value.isInt k v
 |.inr x,v=>Value.isStrOf x v
def keyH (w:World):Key->Int
 |.inl k=>hashInt k
 |.inr x=>hashStr w x
theorem keyIs_shape:∀ {k:Key} {v:Value},keyIs k v=true->(∃ i t,k=Sum.inl i/\v=Value.int i t)∨(∃ x t,k=Sum.inr x/\v=Value.str x t)
 | .inl i,v,h=>by
   obtain ⟨t,e⟩:=Value.isInt_shape (k:=i) (v:=v) h
   exact .inl ⟨i,t,rfl,e⟩
 | .inr x,v,h=>by
   obtain ⟨t,e⟩:=Value.isStrOf_shape (x:=x) (v:=v) h
   exact .inr ⟨x,t,rfl,e⟩
theorem keyIs_int (i:Int) (t:Tok):keyIs (.inl i) (.int i t)=true:=by simp [keyIs,Value.isInt]
theorem keyIs_str (x:Str) (t:Tok):keyIs (.inr x) (.str x t)=true:=by simp [keyIs,Value.isStrOf]
theorem key_ll (a b:Int):decide ((Sum.inl a:Key)=Sum.inl b)=(a == b):=by
 by_cases e:a=b
 ·subst e;simp
 ·have h:¬ (Sum.inl a:Key)=Sum.inl b:=fun q=>e (Sum.inl.inj q)
  rw [decide_eq_false h]
  exact (beq_eq_false_iff_ne.mpr e).symm
theorem key_rr (a b:Str):decide ((Sum.inr a:Key)=Sum.inr b)=decide (a=b):=by
 by_cases e:a=b
 ·subst e;simp
 ·have h:¬ (Sum.inr a:Key)=Sum.inr b:=fun q=>e (Sum.inr.inj q)
  rw [decide_eq_false h,decide_eq_false e]
theorem key_lr (a:Int) (b:Str):decide ((Sum.inl a:Key)=Sum.inr b)=false:=decide_eq_false (fun q=>nomatch q)
theorem key_rl (a:Str) (b:Int):decide ((Sum.inr a:Key)=Sum.inl b)=false:=decide_eq_false (fun q=>nomatch q)
def mixKind (prog:Program) (w:World):PySem.KeyKind prog w Key where
 is:=keyIs
 hash:=keyH w
 inj:=fun v a b ha hb=>by
  rcases keyIs_shape ha with ⟨i,t,rfl,rfl⟩|⟨x,t,rfl,rfl⟩
  ·rcases keyIs_shape hb with ⟨j,u,rfl,e⟩|⟨y,u,rfl,e⟩
   ·injection e with e1 _;rw [e1]
   ·exact nomatch e
  ·rcases keyIs_shape hb with ⟨j,u,rfl,e⟩|⟨y,u,rfl,e⟩
   ·exact nomatch e
   ·injection e with e1 _;rw [e1]
 byValue:=fun k v h=>by
  rcases keyIs_shape h with ⟨i,t,rfl,rfl⟩|⟨x,t,rfl,rfl⟩ <;> rfl
 pyHash:=fun hv h=>by
  rcases keyIs_shape hv with ⟨i,t,rfl,rfl⟩|⟨x,t,rfl,rfl⟩
  ·exact wpAny_pyHash_int h
  ·exact wpAny_pyHash_str h
 eqBool:=fun hu hv h=>by
  rcases keyIs_shape hu with ⟨i,t,rfl,rfl⟩|⟨x,t,rfl,rfl⟩
  ·rcases keyIs_shape hv with ⟨j,u,rfl,rfl⟩|⟨y,u,rfl,rfl⟩
   ·rw [key_ll] at h;exact wpAny_eqBool_int h
   ·rw [key_lr] at h;exact SeqAt.EqAt.int_str i t y u _ _ _ _ h
  ·rcases keyIs_shape hv with ⟨j,u,rfl,rfl⟩|⟨y,u,rfl,rfl⟩
   ·rw [key_rl] at h;exact SeqAt.EqAt.str_int x t j u _ _ _ _ h
   ·rw [key_rr] at h;exact wpAny_eqBool_str h
 «strs»:=fun k x t v h=>by
  rcases keyIs_shape h with ⟨i,u,rfl,e⟩|⟨y,u,rfl,e⟩
  ·exact nomatch e
  ·injection e with e1 _
   subst e1
   cases v <;> rfl
theorem mixKind_int (prog:Program) (w:World) (i:Int) (t:Tok):(mixKind prog w).is (.inl i) (.int i t)=true:=keyIs_int i t
theorem mixKind_str (prog:Program) (w:World) (x:Str) (t:Tok):(mixKind prog w).is (.inr x) (.str x t)=true:=keyIs_str x t
inductive V where
 |non|bl (b:Bool)|int (i:Int)|str (x:Str)|byt (b:Array UInt8)|flt (b:UInt64)|ref (a:Addr)|ty (n:String)
 deriving DecidableEq
def RelV:V->Value->Prop
 |.non,u=>u=Value.none
 |.bl b,u=>u=Value.bool b
 |.int i,u=>∃ t,u=Value.int i t
 |.str x,u=>∃ t,u=Value.str x t
 |.byt b,u=>∃ t,u=Value.bytes b t
 |.flt b,u=>∃ t,u=Value.float b t
 |.ref a,u=>u=Value.ref a
 |.ty n,u=>u=Value.type n
abbrev Vals:List V->List Value->Prop:=Paired RelV
theorem Vals.length {xs:List V} {us:List Value} (r:Vals xs us):xs.length=us.length:=Paired.length r
theorem Vals.get:∀ {xs:List V} {us:List Value} {i:Nat} {x:V},Vals xs us->xs[i]?=some x->∃ u,us[i]?=some u/\RelV x u
 |_,_,_,_,.nil,e=>by simp at e
 |_,_,0,_,.cons r _,e=>by simp at e;subst e;exact ⟨_,rfl,r⟩
 | _,_,i+1,x,.cons _ t,e=>by
   obtain ⟨u,h1,h2⟩:=Vals.get (i:=i) (x:=x) t (by simpa using e)
   exact ⟨u,by simpa using h1,h2⟩
theorem Vals.set {x:V} {u:Value} (r:RelV x u):∀ {xs:List V} {us:List Value} (i:Nat),Vals xs us->Vals (xs.set i x) (us.set i u)
 |_,_,_,.nil=>.nil
 |_,_,0,.cons _ t=>.cons r t
 |_,_,i+1,.cons q t=>.cons q (Vals.set r i t)
theorem Vals.append:∀ {xs ys:List V} {us ws:List Value},Vals xs us->Vals ys ws->Vals (xs++ys) (us++ws)
 |_,_,_,_,.nil,s=>s
 |_,_,_,_,.cons r t,s=>.cons r (Vals.append t s)
theorem Vals.take:∀ {xs:List V} {us:List Value} (n:Nat),Vals xs us->Vals (xs.take n) (us.take n)
 |_,_,0,_=>.nil
 |_,_,_+1,.nil=>.nil
 |_,_,n+1,.cons r t=>.cons r (Vals.take n t)
theorem Vals.drop:∀ {xs:List V} {us:List Value} (n:Nat),Vals xs us->Vals (xs.drop n) (us.drop n)
 |_,_,0,r=>r
 |_,_,_+1,.nil=>.nil
 |_,_,n+1,.cons _ t=>Vals.drop n t
def RelO:Option V->Option Value->Prop
 |some v,some u=>RelV v u
 |none,none=>True
 |_,_=>False
def KV {κ:Type}:List (κ×V)->List (κ×Value)->Prop:=Paired fun (p:κ×V) (q:κ×Value)=>p.1=q.1/\RelV p.2 q.2
def kV:Key->V
 |.inl i=>.int i
 |.inr x=>.str x
inductive HO where
 |lst (xs:List V)
 |tup (xs:List V)
 |dK (kvs:List (Key×V))|dT (kvs:List (List Key×V))
 |set (S:Int->Bool) (n:Nat)
 |ins (C dx:Addr) (fs:List (Str×V))
 |own (x:Addr)
 |xd (fs:List (Str×V))
 |met (f x:Addr)
 |rng (lo hi:Int)
 |frz (o:Obj) (u:HO)
 |tbl (ps:Array Value)
 |ext (φ:Heap->Prop)
abbrev Hp:=Addr->Option HO
def upd (H:Hp) (a:Addr) (o:HO):Hp:=fun b=>if b=a then some o else H b
theorem upd_same {H:Hp} {a:Addr} {o:HO}:upd H a o a=some o:=by unfold upd;rw [if_pos rfl]
theorem upd_ne {H:Hp} {a b:Addr} {o:HO} (h:b≠a):upd H a o b=H b:=by unfold upd;rw [if_neg h]
theorem ne_of {H:Hp} {a b:Addr} {o u:HO} (h:H a=some o) (h':H b=some u) (d:o≠u):a≠b:=by
 intro e;subst e;rw [h] at h';exact d (Option.some.inj h')
theorem ne_of_none {H:Hp} {a b:Addr} {o:HO} (h:H a=some o) (h':H b=none):a≠b:=by
 intro e;subst e;rw [h] at h';cases h'
section
variable (P:Program) (w:World)
def ObjOk (H:Hp) (h:Heap) (a:Addr):HO->Prop
 |.lst xs=>xs.length≤sizeLine/\∃ (its:List Value) (n:Nat),Vals xs its/\h.get? a=some { cls:=.type "list",data:=.seq its.toArray n }
 |.tup xs=>xs.length≤sizeLine/\∃ its:List Value,Vals xs its/\IsTup h a its.toArray
 |.dK kvs=>kvs.length≤sizeLine/\(a == sysModules)=false/\∃ vs,KV kvs vs/\h.DictOf (mixKind P w) a vs
 |.dT kvs=>kvs.length≤sizeLine/\(a == sysModules)=false/\∃ xs:List (List Key×Addr×Value),
  Paired (fun (p:List Key×V) (q:List Key×Addr×Value)=>p.1=q.1/\H q.2.1=some (.tup (p.1.map kV))/\RelV p.2 q.2.2) kvs xs/\
  ∃ o es ep,h.get? a=some o/\o.ExactDict/\o.data=.dict es ep/\es.toList=xs.map (entryOfKey (tupleKind (mixKind P w)))/\(xs.map (·.1)).Nodup
 |.set S n=>h.SetOf (intKind P w) a S n
 |.ins C dx fs=>H dx=some (.own a)/\fs.length≤1000/\dx≠a/\h.get? a=some (PySem.W.instObj C dx)/\
  ∃ mA,h.Ns1 dx mA/\(∀ f,RelO (fs.lookup f) (mA f))/\PySem.Within mA (fs.map (·.1))
 |.own _=>∃ o,h.get? a=some o
 |.xd fs=>∃ mA,h.Ns1 a mA/\∀ f,RelO (fs.lookup f) (mA f)
 |.rng lo hi=>∃ t u v,h.get? a=some { cls:=.type "range",data:=.fields #[.int lo t,.int hi u,.int 1 v] }
 |.frz o u=>h.get? a=some o/\ObjOk H h a u
 |.tbl ps=>h.get? a=some { cls:=.none,data:=.fields ps }
 |.met f x=>h.get? a=some (PySem.W.methodObj (.ref f) (.ref x))
 |.ext φ=>φ h/\(∃ o,h.get? a=some o)/\∀ h1 h2:Heap,φ h1->(∀ o,h1.get? a=some o->h2.get? a=some o)->φ h2
def HOk (H:Hp) (h:Heap):Prop:=∀ a o,H a=some o->ObjOk P w H h a o
end
section
variable {P:Program} {w:World} {H H':Hp} {h h':Heap} {a:Addr} {o:HO}
theorem ObjOk.lt (x:ObjOk P w H h a o):a<h.objs.size:=by
 cases o with
 |lst xs=>obtain ⟨_,_,_,_,e⟩:=x;exact Heap.lt_size e
 |tup xs=>obtain ⟨_,_,_,p⟩:=x;exact p.lt
 |dK kvs=>obtain ⟨_,_,_,_,o,_,_,e,_⟩:=x;exact Heap.lt_size e
 |dT kvs=>obtain ⟨_,_,_,_,o,_,_,e,_⟩:=x;exact Heap.lt_size e
 |set S n=>obtain ⟨o,_,_,_,e,_⟩:=x;exact Heap.lt_size e
 |ins C dx fs=>obtain ⟨_,_,_,e,_⟩:=x;exact Heap.lt_size e
 |own y=>obtain ⟨_,e⟩:=x;exact Heap.lt_size e
 |xd fs=>obtain ⟨_,⟨_,_,_,e,_⟩,_⟩:=x;exact Heap.lt_size e
 |rng lo hi=>obtain ⟨_,_,_,e⟩:=x;exact Heap.lt_size e
 |frz ob u=>obtain ⟨e,_⟩:=x;exact Heap.lt_size e
 |tbl ps=>exact Heap.lt_size (show h.get? a=some _ from x)
 |met f y=>exact Heap.lt_size (show h.get? a=some _ from x)
 |ext φ=>obtain ⟨_,⟨_,e⟩,_⟩:=x;exact Heap.lt_size e
theorem Paired.mapP {α β:Type} {F G:α->β->Prop}:∀ {l₁:List α} {l₂:List β},Paired F l₁ l₂->(∀ a b,F a b->G a b)->Paired G l₁ l₂
 |_,_,.nil,_=>.nil
 |_,_,.cons r t,f=>.cons (f _ _ r) (Paired.mapP t f)
theorem ObjOk.stay (x:ObjOk P w H h a o) (k:∀ b u,(b=a∨H b=some (.own a))->h.get? b=some u->h'.get? b=some u)
 (ho:∀ b,H b=some (.own a)->H' b=some (.own a)) (ht:∀ b xs,H b=some (.tup xs)->H' b=some (.tup xs)):ObjOk P w H' h' a o:=by
 induction o with
 |lst xs=>obtain ⟨z,its,n,r,e⟩:=x;exact ⟨z,its,n,r,k _ _ (.inl rfl) e⟩
 |tup xs=>obtain ⟨z,its,r,ob,e,c⟩:=x;exact ⟨z,its,r,ob,k _ _ (.inl rfl) e,c⟩
 |dK kvs=>obtain ⟨z,y,vs,r,ob,es,ep,e,c⟩:=x;exact ⟨z,y,vs,r,ob,es,ep,k _ _ (.inl rfl) e,c⟩
 | dT kvs=>
   obtain ⟨z,y,xs,r,ob,es,ep,e,c⟩:=x
   exact ⟨z,y,xs,Paired.mapP r fun p q z=>⟨z.1,ht _ _ z.2.1,z.2.2⟩,ob,es,ep,k _ _ (.inl rfl) e,c⟩
 |set S n=>obtain ⟨ob,es,ep,t,e,c⟩:=x;exact ⟨ob,es,ep,t,k _ _ (.inl rfl) e,c⟩
 | ins C dx fs=>
   obtain ⟨d,z,ne,e,mA,⟨od,es,ep,e2,c⟩,r⟩:=x
   exact ⟨ho _ d,z,ne,k _ _ (.inl rfl) e,mA,⟨od,es,ep,k _ _ (.inr d) e2,c⟩,r⟩
 |own y=>obtain ⟨ob,e⟩:=x;exact ⟨ob,k _ _ (.inl rfl) e⟩
 |xd fs=>obtain ⟨mA,⟨od,es,ep,e,c⟩,r⟩:=x;exact ⟨mA,⟨od,es,ep,k _ _ (.inl rfl) e,c⟩,r⟩
 |rng lo hi=>obtain ⟨t,u,v,e⟩:=x;exact ⟨t,u,v,k _ _ (.inl rfl) e⟩
 |frz ob u ih=>obtain ⟨e,q⟩:=x;exact ⟨k _ _ (.inl rfl) e,ih q⟩
 | tbl ps=>
   have e:h.get? a=some { cls:=.none,data:=.fields ps }:=x
   show h'.get? a=some { cls:=.none,data:=.fields ps }
   exact k a _ (.inl rfl) e
 | met f y=>
   have e:h.get? a=some (PySem.W.methodObj (.ref f) (.ref y)):=x
   show h'.get? a=some (PySem.W.methodObj (.ref f) (.ref y))
   exact k a _ (.inl rfl) e
 |ext φ=>obtain ⟨p,⟨o,e⟩,st⟩:=x;exact ⟨st _ _ p fun o q=>k _ _ (.inl rfl) q,⟨o,k _ _ (.inl rfl) e⟩,st⟩
theorem HOk.lt (x:HOk P w H h) (e:H a=some o):a<h.objs.size:=(x a o e).lt
theorem HOk.fresh (x:HOk P w H h) (e:h.objs.size≤a):H a=none:=by
 cases q:H a with
 |none=>rfl
 |some u=>exact absurd (Nat.lt_of_lt_of_le (x.lt q) e) (Nat.lt_irrefl _)
theorem HOk.kept (x:HOk P w H h) (k:∀ b u,h.get? b=some u->h'.get? b=some u):HOk P w H h':=fun a o e=>
 (x a o e).stay (fun b u _ q=>k b u q) (fun _ q=>q) fun _ _ q=>q
theorem HOk.laid (x:HOk P w H h) (k:∀ b u,h.get? b=some u->h'.get? b=some u) (hp:h.objs.size≤a) (new:ObjOk P w (upd H a o) h' a o):HOk P w (upd H a o) h':=fun b u e=>by
 have hn:=x.fresh hp
 by_cases hb:b=a
 ·subst hb;rw [upd_same] at e;cases e;exact new
 ·rw [upd_ne hb] at e
  exact (x b u e).stay (fun c v _ q=>k c v q) (fun c q=>by rw [upd_ne (ne_of_none q hn)];exact q) fun c xs q=>by rw [upd_ne (ne_of_none q hn)];exact q
end
def Rd (H:Hp) (a:Addr) (u:HO):Prop:=H a=some u∨∃ o,H a=some (.frz o u)
theorem Rd.ok {P:Program} {w:World} {H:Hp} {h:Heap} {a:Addr} {u:HO} (r:Rd H a u) (x:HOk P w H h):ObjOk P w H h a u:=by
 rcases r with r|⟨o,r⟩
 ·exact x a u r
 ·obtain ⟨_,q⟩:=x a _ r
  exact q
def Mut:Option HO->Prop
 |some (.lst _)=>True
 |some (.dK _)=>True
 |some (.dT _)=>True
 |some (.set _ _)=>True
 |some (.ins _ _ _)=>True
 |some (.ext _)=>True
 |_=>False
section
variable {P:Program} {w:World} {H:Hp} {h h':Heap} {x e:Addr} {o':HO}
theorem HOk.write (ok:HOk P w H h) (mu:Mut (H x)) (he:e=x∨H e=some (.own x)) (k:∀ b u,b≠e->h.get? b=some u->h'.get? b=some u) (heo:∃ u,h'.get? e=some u)
 (new:ObjOk P w (upd H x o') h' x o'):HOk P w (upd H x o') h':=fun b u q=>by
 have nown:∀ c y,H c=some (.own y)->c≠x:=fun c y r z=>by subst z;rw [r] at mu;exact mu
 have ntup:∀ c xs,H c=some (.tup xs)->c≠x:=fun c xs r z=>by subst z;rw [r] at mu;exact mu
 by_cases hb:b=x
 ·subst hb;rw [upd_same] at q;cases q;exact new
 ·rw [upd_ne hb] at q
  by_cases hbe:b=e
  ·have q':H b=some (.own x):=by
    rcases he with z|z
    ·exact absurd (hbe.trans z) hb
    ·rw [hbe];exact z
   rw [q] at q';cases q'
   obtain ⟨v,hv⟩:=heo
   exact ⟨v,by rw [hbe];exact hv⟩
  ·refine (ok b u q).stay (fun c v hc r=>k c v ?_ r) (fun c r=>by rw [upd_ne (nown c b r)];exact r) fun c xs r=>by rw [upd_ne (ntup c xs r)];exact r
   rcases hc with rfl|hc
   ·exact hbe
   ·rintro rfl
    rcases he with z|z
    ·exact nown c b hc z
    ·rw [hc] at z;cases z;exact hb rfl
end
structure Un (fs ex:List Addr) (H H':Hp) (h h':Heap):Prop where
 keep:∀ b o,h.get? b=some o->H b=none->b∉fs->b∉ex->h'.get? b=some o
 slot:∀ b o,h.get? b=some o->H b=none->b∈fs->b∉ex->∃ sl,h'.get? b=some { o with slots:=sl }
 free:∀ b o,h.get? b=some o->H b=none->b∉ex->H' b=none
 there:∀ b o,h.get? b=some o->b∉ex->∃ o',h'.get? b=some o'
 tups:∀ b xs,H b=some (.tup xs)->H' b=some (.tup xs)
 frzs:∀ b o u,H b=some (.frz o u)->H' b=some (.frz o u)
 tbls:∀ b ps,H b=some (.tbl ps)->∃ more,H' b=some (.tbl (ps++more))
section
variable {fs fs' ex ex':List Addr} {H H1 H2:Hp} {h h1 h2 h':Heap} {a x e:Addr} {o:HO}
theorem Un.any (u:Un fs ex H H1 h h1) {b:Addr} {ob:Obj} (q:h.get? b=some ob) (n:H b=none) (hx:b∉ex):∃ sl,h1.get? b=some { ob with slots:=sl }:=by
 by_cases hb:b∈fs
 ·exact u.slot b ob q n hb hx
 ·exact ⟨ob.slots,u.keep b ob q n hb hx⟩
theorem Un.kept (k:∀ b u,h.get? b=some u->h'.get? b=some u):Un fs ex H H h h':=
 ⟨fun b ob q _ _ _=>k b ob q,fun b ob q _ _ _=>⟨ob.slots,k b ob q⟩,fun _ _ _ n _=>n,fun b ob q _=>⟨ob,k b ob q⟩,fun _ _ q=>q,fun _ _ _ q=>q,fun _ ps q=>⟨#[],by rw [q];simp⟩⟩
theorem Un.refl:Un fs ex H H h h:=Un.kept fun _ _ q=>q
theorem Un.laid (k:∀ b u,h.get? b=some u->h'.get? b=some u) (hp:h.objs.size≤a) (hn:H a=none):Un fs ex H (upd H a o) h h' where
 keep:=fun b u q _ _ _=>k b u q
 slot:=fun b u q _ _ _=>⟨u.slots,k b u q⟩
 free:=fun b u q n _=>by rw [upd_ne (Nat.ne_of_lt (Nat.lt_of_lt_of_le (Heap.lt_size q) hp))];exact n
 there:=fun b u q _=>⟨u,k b u q⟩
 tups:=fun b xs q=>by rw [upd_ne (ne_of_none q hn)];exact q
 frzs:=fun b u xs q=>by rw [upd_ne (ne_of_none q hn)];exact q
 tbls:=fun b ps q=>⟨#[],by rw [upd_ne (ne_of_none q hn),q];simp⟩
theorem Un.write (mu:Mut (H x)) (he:e=x∨H e=some (.own x)) (k:∀ b u,b≠e->h.get? b=some u->h'.get? b=some u) (heo:∃ u,h'.get? e=some u):Un fs ex H (upd H x o) h h':=by
 have hx:∀ b,H b=none->b≠x:=fun b n z=>by subst z;rw [n] at mu;exact mu
 have hb:∀ b,H b=none->b≠e:=fun b n z=>by
  subst z
  rcases he with r|r
  ·exact hx b n r
  ·rw [n] at r;cases r
 have hm:∀ b u,H b=some u->¬ Mut (some u)->b≠x:=fun b u q nm z=>by subst z;rw [q] at mu;exact nm mu
 refine ⟨fun b u q n _ _=>k b u (hb b n) q,fun b u q n _ _=>⟨u.slots,k b u (hb b n) q⟩,fun b u q n _=>by rw [upd_ne (hx b n)];exact n,fun b u q _=>?_,
  fun b xs q=>by rw [upd_ne (hm b _ q fun z=>z)];exact q,fun b u xs q=>by rw [upd_ne (hm b _ q fun z=>z)];exact q,fun b ps q=>⟨#[],by rw [upd_ne (hm b _ q fun z=>z),q];simp⟩⟩
 by_cases hbe:b=e
 ·subst hbe;exact heo
 ·exact ⟨u,k b u hbe q⟩
end
def trk (h:Heap) (H:Hp):List Addr:=(List.range h.objs.size).filter fun a=>(H a).isSome
def hidT (h:Heap) (H:Hp):Heap:=PySem.W.hideAll h (trk h H)
theorem hidT_size (h:Heap) (H:Hp):(hidT h H).objs.size=h.objs.size:=PySem.W.hideAll_size _ _
theorem hidT_get {h:Heap} {H:Hp} {b:Addr} {o:Obj} (e:h.get? b=some o) (n:H b=none):(hidT h H).get? b=some o:=
 PySem.W.hideAll_get _ e fun hm=>by
  have q:(H b).isSome=true:=(List.mem_filter.mp hm).2
  rw [n] at q;simp at q
theorem of_hidT {h:Heap} {H:Hp} {b:Addr} {o:Obj} (e:(hidT h H).get? b=some o):h.get? b=some o/\H b=none:=by
 have e':h.get? b=some o:=PySem.W.of_hideAll (trk h H) e
 refine ⟨e',?_⟩
 cases q:H b with
 |none=>rfl
 | some x=>
   have hm:b∈trk h H:=List.mem_filter.mpr ⟨List.mem_range.mpr (Heap.lt_size e'),by simp [q]⟩
   have z:(hidT h H).get? b=none:=PySem.W.hideAll_none (trk h H) hm
   rw [z] at e;cases e
structure Mod (K:PySem.W.Frag) (mg:Str->Option Value) (base:Heap):Prop where
 kin:K.In base
 glob:base.Ns mainGlobals mg
 blt:∃ mb,base.Ns builtinsNs mb/\∀ x:Str,x ≠ "__name__"->mb x=bootBuiltins x
 nolimit:base.NoLimit
structure Cx where
 prog:Program
 w:World
 K:PySem.W.Frag
 mg:Str->Option Value
 base:Heap
 A:Around
 N:List Str
 s₀:Shared
 H₀:Hp
 env:Env
 outer:List Env
 stack:List Env
 ex:List Addr
 fn:Str->Bool
 calm:Bool
 pn:List (Addr×Obj)
 xe:Value->Shared->Prop
def frs (l:List Env):List Addr:=l.filterMap (·.frame)
abbrev Cx.fs (X:Cx):List Addr:=frs X.outer
def Vis (sc:Scope) (x:Str):Prop:=sc.names.lookup x=some .local∨sc.names.lookup x=some .cell∨sc.names.lookup x=some .free
def Loc (sc:Scope) (x:Str):Prop:=sc.names.lookup x=some .local∨sc.names.lookup x=some .cell
def Look (env:Env) (h:Heap) (m:Str->Option Value) (x:Str) (u:Value):Prop:=
 (env.kindOf x=some .local/\m x=some u)∨((env.kindOf x=some .cell∨env.kindOf x=some .free)/\∃ c,env.cells.lookup x=some c/\h.IsCell c (some u))
structure Cx.Ok (X:Cx):Prop where
 mod:Mod X.K X.mg X.base
 kind:X.env.scope.kind=.function
 glob:X.env.globals=mainGlobals
 blt:X.env.builtins=builtinsNs
 above:X.s₀.heap.objs.size≤X.env.locals
 inj:∀ x y c,X.env.cells.lookup x=some c->X.env.cells.lookup y=some c->x=y
 has:∀ x,(X.env.kindOf x=some .cell∨X.env.kindOf x=some .free)->∃ c,X.env.cells.lookup x=some c
 cab:∀ x c,X.fn x=true->X.env.cells.lookup x=some c->X.s₀.heap.objs.size≤c
 hd:X.calm=true->X.A.handled=none
 frames:X.A.frames=some X.stack
 stk:X.stack=X.outer∨(X.stack=X.env::X.outer/\X.env.frame=some X.env.locals)
 exf:∀ b∈X.ex,b≠X.env.locals/\∀ x c,X.env.cells.lookup x=some c->c≠b
 bs:∀ b o,X.base.get? b=some o->X.s₀.heap.get? b=some o/\X.H₀ b=none
 bsz:X.base.objs.size≤X.s₀.heap.objs.size
 noex:∀ b o,X.base.get? b=some o->b∉X.ex
 exfs:∀ b∈X.ex,b∉X.fs
 funs:X.s₀.heap.FunFrames X.base X.outer
 frf:∀ b∈X.fs,X.H₀ b=none
structure Inv (X:Cx) (pins:List (Addr×Obj)) (σ:List (Option V)) (H:Hp) (s:Shared):Prop where
 ok:X.Ok
 os:s.os=X.s₀.os
 bare:AllBare s.gens
 base:Un X.fs X.ex X.H₀ H X.s₀.heap s.heap
 loc:∃ m,s.heap.Ns X.env.locals m/\∀ (i:Nat) (x:Str) (v:V),X.N[i]?=some x->σ[i]?=some (some v)->Vis X.env.scope x->∃ u,RelV v u/\Look X.env s.heap m x u
 cell:∀ x c,X.env.cells.lookup x=some c->∃ v,s.heap.IsCell c v
 free:H X.env.locals=none
 freeC:∀ x c,X.env.cells.lookup x=some c->H c=none
 pin:∀ p∈X.pn++pins,s.heap.get? p.1=some p.2/\H p.1=none/\p.1≠X.env.locals/\p.1∉X.fs/\∀ v,p.2.data≠.cell v
 hok:HOk X.prog X.w H s.heap
 len:σ.length=X.N.length
section
variable {X:Cx} {pins:List (Addr×Obj)} {σ:List (Option V)} {H H':Hp} {s:Shared} {h':Heap}
theorem Cx.Ok.nofr (ok:X.Ok) {b:Addr} {o:Obj} (e:X.base.get? b=some o):b∉X.fs:=fun hb=>by
 have:=(ok.funs.mem hb).1
 rw [e] at this;cases this
theorem Inv.bs (I:Inv X pins σ H s):∀ b o,X.base.get? b=some o->s.heap.get? b=some o/\H b=none:=fun b o e=>
 ⟨I.base.keep b o (I.ok.bs b o e).1 (I.ok.bs b o e).2 (I.ok.nofr e) (I.ok.noex b o e),I.base.free b o (I.ok.bs b o e).1 (I.ok.bs b o e).2 (I.ok.noex b o e)⟩
theorem Inv.bk (I:Inv X pins σ H s):∀ b o,X.base.get? b=some o->s.heap.get? b=some o:=fun b o e=>(I.bs b o e).1
theorem Inv.mod (I:Inv X pins σ H s):Mod X.K X.mg X.base:=I.ok.mod
theorem Inv.kIn (I:Inv X pins σ H s):X.K.In s.heap:=I.ok.mod.kin.keeps I.bk
theorem Inv.fr (I:Inv X pins σ H s):∃ m,Fr X.base X.env.locals s.heap m:=
 let ⟨m,hn,_⟩:=I.loc
 ⟨m,hn,I.bk,Nat.le_trans I.ok.bsz I.ok.above⟩
theorem Inv.lt (I:Inv X pins σ H s):X.env.locals<s.heap.objs.size:=let ⟨_,hn,_⟩:=I.loc;hn.lt
theorem Inv.sz (I:Inv X pins σ H s):X.s₀.heap.objs.size≤s.heap.objs.size:=Nat.le_trans I.ok.above (Nat.le_of_lt I.lt)
theorem Inv.nofs (I:Inv X pins σ H s) {a:Addr} (h:s.heap.objs.size≤a):a∉X.fs:=fun hb=>by
 obtain ⟨_,o,ho,_⟩:=I.ok.funs.mem hb
 exact absurd (Nat.lt_of_lt_of_le (Heap.lt_size ho) (Nat.le_trans I.sz h)) (Nat.lt_irrefl _)
theorem Inv.cne (I:Inv X pins σ H s):∀ x c,X.env.cells.lookup x=some c->c≠X.env.locals:=fun x c e z=>by
 obtain ⟨v,o,ho,hd⟩:=I.cell x c e
 obtain ⟨m,⟨o',es,ep,ho',hd',_⟩,_⟩:=I.loc
 rw [z,ho'] at ho;cases ho;rw [hd'] at hd;cases hd
theorem Inv.funs (I:Inv X pins σ H s):s.heap.FunFrames X.base X.outer:=by
 have all:∀ (l:List Env),(∀ b∈frs l,b∈X.fs)->X.s₀.heap.FunFrames X.base l->s.heap.FunFrames X.base l:=by
  intro l
  induction l with
  |nil=>intro _ _;trivial
  | cons env r ih=>
    intro hs hl
    obtain ⟨hk,⟨L,o,hf,hn,ho,hd⟩,hr⟩:=hl
    have hL:L∈X.fs:=hs L (by unfold frs;rw [List.filterMap_cons,hf];exact List.mem_cons_self)
    obtain ⟨sl,e⟩:=I.base.slot L o ho (I.ok.frf L hL) hL fun z=>I.ok.exfs L z hL
    exact ⟨hk,⟨L,_,hf,hn,e,hd⟩,ih (fun b hb=>hs b (by unfold frs;rw [List.filterMap_cons,hf];exact List.mem_cons_of_mem _ hb)) hr⟩
 exact all X.outer (fun _ hb=>hb) I.ok.funs
theorem Inv.stack (I:Inv X pins σ H s):s.heap.FunFrames X.base X.stack:=by
 rcases I.ok.stk with e|⟨e,hf⟩
 ·rw [e];exact I.funs
 ·rw [e]
  obtain ⟨m,hn,_⟩:=I.loc
  refine .cons (by rw [I.ok.kind];decide) hf hn ?_ I.funs
  exact Heap.get?_none_of_le (Nat.le_trans I.ok.bsz I.ok.above)
theorem Inv.stkSub (I:Inv X pins σ H s):∀ b∈frs X.stack,b∈X.env.locals::X.fs:=fun b hb=>by
 rcases I.ok.stk with e|⟨e,hf⟩
 ·rw [e] at hb;exact List.mem_cons_of_mem _ hb
 ·rw [e] at hb
  unfold frs at hb
  rw [List.filterMap_cons,hf] at hb
  exact hb
theorem Inv.stkFree (I:Inv X pins σ H s):∀ b∈frs X.stack,H b=none:=fun b hb=>by
 rcases List.mem_cons.mp (I.stkSub b hb) with e|hb
 ·rw [e];exact I.free
 ·obtain ⟨_,o,ho,_⟩:=I.ok.funs.mem hb
  exact I.base.free b o ho (I.ok.frf b hb) fun z=>I.ok.exfs b z hb
theorem Inv.step {g':Array GenState} {t':Nat} {d':Drawn} {ch:List Addr} (I:Inv X pins σ H s)
 (hch:∀ b∈ch,(b∈X.ex∨X.s₀.heap.objs.size≤b)/\b≠X.env.locals/\(∀ x c,X.env.cells.lookup x=some c->c≠b)/\∀ p∈X.pn++pins,p.1≠b)
 (keep:∀ b o,b≠X.env.locals->b∉X.fs->b∉ch->s.heap.get? b=some o->H b=none->h'.get? b=some o)
 (slot:∀ b o,b≠X.env.locals->b∈X.fs->b∉ch->s.heap.get? b=some o->H b=none->∃ sl,h'.get? b=some { o with slots:=sl }) (free:∀ b o,b∉ch->s.heap.get? b=some o->H b=none->H' b=none)
 (there:∀ b o,b∉ch->s.heap.get? b=some o->∃ o',h'.get? b=some o')
 (tups:∀ b xs,H b=some (.tup xs)->H' b=some (.tup xs)) (frzs:∀ b o u,H b=some (.frz o u)->H' b=some (.frz o u)) (tbls:∀ b ps,H b=some (.tbl ps)->∃ more,H' b=some (.tbl (ps++more)))
 (ns:∀ m,s.heap.Ns X.env.locals m->h'.Ns X.env.locals m) (hok:HOk X.prog X.w H' h') (hg:AllBare g') :
 Inv X pins σ H' { s with heap:=h',gens:=g',drawn:=d',toks:=t' }:=by
 have neL:∀ b o,X.s₀.heap.get? b=some o->b≠X.env.locals:=fun b o e=>Nat.ne_of_lt (Nat.lt_of_lt_of_le (Heap.lt_size e) I.ok.above)
 have neC:∀ b o,X.s₀.heap.get? b=some o->b∉X.ex->b∉ch:=fun b o e hx hb=>by
  rcases (hch b hb).1 with z|z
  ·exact hx z
  ·exact absurd (Nat.lt_of_lt_of_le (Heap.lt_size e) z) (Nat.lt_irrefl _)
 have cellK:∀ x c,X.env.cells.lookup x=some c->∀ v,s.heap.IsCell c v->h'.IsCell c v:=fun x c e v ⟨o,ho,hd⟩=>by
  have nch:c∉ch:=fun z=>(hch c z).2.2.1 x c e rfl
  by_cases hc:c∈X.fs
  ·obtain ⟨sl,q⟩:=slot c o (I.cne x c e) hc nch ho (I.freeC x c e)
   exact ⟨_,q,hd⟩
  ·exact ⟨o,keep c o (I.cne x c e) hc nch ho (I.freeC x c e),hd⟩
 refine ⟨I.ok,I.os,hg,⟨fun b o e n hb hx=>?_,fun b o e n hb hx=>?_,fun b o e n hx=>?_,fun b o e hx=>?_,fun b xs e=>tups b xs (I.base.tups b xs e),fun b o xs e=>frzs b o xs (I.base.frzs b o xs e),fun b ps e=>?_⟩,?_,fun x c e=>?_,?_,fun x c e=>?_,fun p hp=>?_,hok,I.len⟩
 ·exact keep b o (neL b o e) hb (neC b o e hx) (I.base.keep b o e n hb hx) (I.base.free b o e n hx)
 ·obtain ⟨sl,e1⟩:=I.base.slot b o e n hb hx
  obtain ⟨sl',e2⟩:=slot b _ (neL b o e) hb (neC b o e hx) e1 (I.base.free b o e n hx)
  exact ⟨sl',e2⟩
 ·obtain ⟨o',e1⟩:=I.base.there b o e hx
  exact free b o' (neC b o e hx) e1 (I.base.free b o e n hx)
 ·obtain ⟨o',e1⟩:=I.base.there b o e hx
  exact there b o' (neC b o e hx) e1
 ·obtain ⟨m1,e1⟩:=I.base.tbls b ps e
  obtain ⟨m2,e2⟩:=tbls b _ e1
  exact ⟨m1++m2,by rw [e2,Array.append_assoc]⟩
 ·obtain ⟨m,hn,hl⟩:=I.loc
  refine ⟨m,ns m hn,fun i x v e1 e2 e3=>?_⟩
  obtain ⟨u,r,l⟩:=hl i x v e1 e2 e3
  refine ⟨u,r,?_⟩
  rcases l with l|⟨k,c,e,z⟩
  ·exact .inl l
  ·exact .inr ⟨k,c,e,cellK x c e _ z⟩
 ·obtain ⟨v,z⟩:=I.cell x c e
  exact ⟨v,cellK x c e v z⟩
 ·obtain ⟨m,⟨o,_,_,ho,_⟩,_⟩:=I.loc
  exact free _ o (fun z=>(hch _ z).2.1 rfl) ho I.free
 ·obtain ⟨v,o,ho,hd⟩:=I.cell x c e
  exact free c o (fun z=>(hch c z).2.2.1 x c e rfl) ho (I.freeC x c e)
 ·obtain ⟨e,n,ne,nf,d⟩:=I.pin p hp
  have nch:p.1∉ch:=fun z=>(hch p.1 z).2.2.2 p hp rfl
  exact ⟨keep p.1 p.2 ne nf nch e n,free p.1 p.2 nch e n,ne,nf,d⟩
theorem Inv.un {t':Nat} (I:Inv X pins σ H s) (u:Un X.fs [] H H' s.heap h') (hok:HOk X.prog X.w H' h'):Inv X pins σ H' { s with heap:=h',toks:=t' }:=by
 obtain ⟨m,⟨o,es,ep,ho,r⟩,_⟩:=id I.loc
 obtain ⟨sl,hL⟩:=u.any ho I.free (by simp)
 exact I.step (g':=s.gens) (d':=s.drawn) (ch:=[]) (fun _ z=>nomatch z) (fun b o _ hb _ e n=>u.keep b o e n hb (by simp)) (fun b o _ hb _ e n=>u.slot b o e n hb (by simp)) (fun b o _ e n=>u.free b o e n (by simp)) (fun b o _ e=>u.there b o e (by simp)) u.tups u.frzs u.tbls (fun m' hm=>by
  obtain ⟨o',es',ep',ho',r'⟩:=hm
  rw [ho] at ho';cases ho'
  exact ⟨_,es',ep',hL,r'⟩) hok I.bare
theorem Inv.call {g':Array GenState} {t':Nat} {d':Drawn} {ch:List Addr} (I:Inv X pins σ H s) (u:Un (frs X.stack) ch H H' s.heap h') (hok:HOk X.prog X.w H' h') (hg:AllBare g')
 (hch:∀ b∈ch,(b∈X.ex∨X.s₀.heap.objs.size≤b)/\b≠X.env.locals/\(∀ x c,X.env.cells.lookup x=some c->c≠b)/\∀ p∈X.pn++pins,p.1≠b) :
 Inv X pins σ H' { s with heap:=h',gens:=g',drawn:=d',toks:=t' }:=by
 obtain ⟨m,⟨o,es,ep,ho,r⟩,_⟩:=id I.loc
 obtain ⟨sl,hL⟩:=u.any ho I.free fun z=>(hch _ z).2.1 rfl
 exact I.step (ch:=ch) hch (fun b o hL hb hc e n=>u.keep b o e n (fun z=>(List.mem_cons.mp (I.stkSub b z)).elim hL hb) hc) (fun b o _ _ hc e n=>u.any e n hc) (fun b o hc e n=>u.free b o e n hc) (fun b o hc e=>u.there b o e hc) u.tups u.frzs u.tbls (fun m' hm=>by
  obtain ⟨o',es',ep',ho',r'⟩:=hm
  rw [ho] at ho';cases ho'
  exact ⟨_,es',ep',hL,r'⟩) hok hg
theorem Inv.turned {t':Nat} {it:Addr} (I:Inv X pins σ H s) (k:∀ b o,b≠it->s.heap.get? b=some o->h'.get? b=some o) (hn:H it=none) (hL:it≠X.env.locals)
 (h1:it∈X.ex∨X.s₀.heap.objs.size≤it) (h2:∀ x c,X.env.cells.lookup x=some c->c≠it) (h3:∀ p∈X.pn++pins,p.1≠it):Inv X pins σ H { s with heap:=h',toks:=t' }:=by
 have nit:∀ b u,H b=some u->b≠it:=fun b u e z=>by rw [z,hn] at e;cases e
 refine I.step (g':=s.gens) (d':=s.drawn) (ch:=[it]) (fun b hb=>?_) (fun b o _ _ hc e _=>k b o (fun z=>hc (by simp [z])) e) (fun b o _ _ hc e _=>⟨o.slots,k b o (fun z=>hc (by simp [z])) e⟩) (fun _ _ _ _ n=>n)
  (fun b o hc e=>⟨o,k b o (fun z=>hc (by simp [z])) e⟩) (fun _ _ e=>e) (fun _ _ _ e=>e) (fun b ps e=>⟨#[],by rw [e];simp⟩) (fun m hm=>?_) (fun b u e=>?_) I.bare
 ·have e:b=it:=by simpa using hb
  subst e
  exact ⟨h1,hL,h2,h3⟩
 ·obtain ⟨o,es,ep,ho,r⟩:=hm
  exact ⟨o,es,ep,k _ o (Ne.symm hL) ho,r⟩
 ·refine (I.hok b u e).stay (fun c v hc q=>k c v ?_ q) (fun _ q=>q) fun _ _ q=>q
  rcases hc with z|z
  ·rw [z];exact nit b u e
  ·exact nit c _ z
theorem Inv.tok (I:Inv X pins σ H s) (t:Nat):Inv X pins σ H { s with toks:=t }:=I.un (h':=s.heap) (t':=t) Un.refl I.hok
theorem Inv.kept {t':Nat} (I:Inv X pins σ H s) (k:∀ b u,s.heap.get? b=some u->h'.get? b=some u):Inv X pins σ H { s with heap:=h',toks:=t' }:=I.un (Un.kept k) (I.hok.kept k)
theorem Inv.laid {a:Addr} {o:HO} {t':Nat} (I:Inv X pins σ H s) (k:∀ b u,s.heap.get? b=some u->h'.get? b=some u) (hp:s.heap.objs.size≤a) (new:ObjOk X.prog X.w (upd H a o) h' a o) :
 Inv X pins σ (upd H a o) { s with heap:=h',toks:=t' }:=I.un (Un.laid k hp (I.hok.fresh hp)) (I.hok.laid k hp new)
theorem Inv.write {x e:Addr} {o:HO} {t':Nat} (I:Inv X pins σ H s) (mu:Mut (H x)) (he:e=x∨H e=some (.own x)) (k:∀ b u,b≠e->s.heap.get? b=some u->h'.get? b=some u) (heo:∃ u,h'.get? e=some u)
 (new:ObjOk X.prog X.w (upd H x o) h' x o):Inv X pins σ (upd H x o) { s with heap:=h',toks:=t' }:=I.un (Un.write mu he k heo) (I.hok.write mu he k heo new)
theorem Inv.pins_of {pins':List (Addr×Obj)} (I:Inv X pins σ H s) (h:∀ p∈pins',s.heap.get? p.1=some p.2/\H p.1=none/\p.1≠X.env.locals/\p.1∉X.fs/\∀ v,p.2.data≠.cell v):Inv X pins' σ H s:=
 ⟨I.ok,I.os,I.bare,I.base,I.loc,I.cell,I.free,I.freeC,fun p hp=>(List.mem_append.mp hp).elim (fun z=>I.pin p (List.mem_append_left _ z)) (h p),I.hok,I.len⟩
theorem nodup_ix {N:List Str} (hN:N.Nodup) {i j:Nat} {x:Str} (a:N[i]?=some x) (b:N[j]?=some x):i=j:=by
 obtain ⟨h1,e1⟩:=List.getElem?_eq_some_iff.mp a
 obtain ⟨h2,e2⟩:=List.getElem?_eq_some_iff.mp b
 exact (List.getElem_inj hN).mp (e1.trans e2.symm)
theorem store_ok2 {M:Model} {A:Around} {E:Value->Shared->Prop} {i:Nat} {x:Str} {v:V} {u:Value} {Q:Unit->Shared->Prop} (I:Inv X pins σ H s) (hN:X.N.Nodup) (hi:X.N[i]?=some x) (hx:Loc X.env.scope x) (r:RelV v u)
 (h:∀ s',Inv X pins (σ.set i (some v)) H s'->(∃ a,Heap.SameBut a s.heap s'.heap/\(a=X.env.locals∨X.env.cells.lookup x=some a))->Q () s') (hf:X.fn x=true∨X.env.scope.names.lookup x=some .local:=by first|exact .inl rfl|exact .inr rfl|assumption):wpAny M A (storeName X.env x u) Q E s:=by
 obtain ⟨m,hn,hl⟩:=id I.loc
 have hcls:(X.env.scope.kind == .class || (X.env.scope.kind == .module && X.env.locals != X.env.globals))=false:=by rw [I.ok.kind];rfl
 have hiσ:i<σ.length:=by rw [I.len];exact (List.getElem?_eq_some_iff.mp hi).1
 have cne:=I.cne
 have tracked:∀ {a:Addr} {h':Heap},(∃ o,s.heap.get? a=some o/\H a=none)->Heap.SameBut a s.heap h'->HOk X.prog X.w H h':=fun {a h'} ha hs b ob e=>by
  obtain ⟨_,_,hfree⟩:=ha
  refine (I.hok b ob e).stay (fun c w' hc q=>(hs.2 c ?_).trans q) (fun _ q=>q) fun _ _ q=>q
  rintro rfl
  rcases hc with rfl|hc
  ·rw [hfree] at e;cases e
  ·rw [hfree] at hc;cases hc
 rcases hx with hk|hk
 ·refine wpAny_storeName_local hk hn (fun h' hn' hs=>?_) hcls
  obtain ⟨oL,_,_,hoL,_⟩:=id hn
  refine h _ ⟨I.ok,I.os,I.bare,⟨fun b o e n hb hx=>?_,fun b o e n hb hx=>?_,I.base.free,fun b o e hx=>?_,I.base.tups,I.base.frzs,I.base.tbls⟩,⟨_,hn',fun j y v' e1 e2 e3=>?_⟩,fun y c e=>?_,I.free,I.freeC,fun p hp=>?_,tracked ⟨oL,hoL,I.free⟩ hs,by simpa using I.len⟩ ⟨_,hs,.inl rfl⟩
  ·exact (hs.2 b (Nat.ne_of_lt (Nat.lt_of_lt_of_le (Heap.lt_size e) I.ok.above))).trans (I.base.keep b o e n hb hx)
  ·obtain ⟨sl,e1⟩:=I.base.slot b o e n hb hx
   exact ⟨sl,(hs.2 b (Nat.ne_of_lt (Nat.lt_of_lt_of_le (Heap.lt_size e) I.ok.above))).trans e1⟩
  ·obtain ⟨o',e1⟩:=I.base.there b o e hx
   exact ⟨o',(hs.2 b (Nat.ne_of_lt (Nat.lt_of_lt_of_le (Heap.lt_size e) I.ok.above))).trans e1⟩
  ·by_cases hj:j=i
   ·subst hj
    rw [hi] at e1;cases e1
    rw [List.getElem?_set_self hiσ] at e2
    cases e2
    exact ⟨u,r,.inl ⟨hk,by simp⟩⟩
   ·rw [List.getElem?_set_ne (Ne.symm hj)] at e2
    obtain ⟨u',r',q⟩:=hl j y v' e1 e2 e3
    refine ⟨u',r',?_⟩
    rcases q with ⟨k,e⟩|⟨k,c,e,z⟩
    ·refine .inl ⟨k,?_⟩
     have:y≠x:=fun e=>hj (nodup_ix hN e1 (e ▸ hi))
     simp [this,e]
    ·exact .inr ⟨k,c,e,z.sameBut hs (cne y c e)⟩
  ·obtain ⟨w',z⟩:=I.cell y c e
   exact ⟨w',z.sameBut hs (cne y c e)⟩
  ·obtain ⟨e,n,ne,nf,d⟩:=I.pin p hp
   exact ⟨(hs.2 p.1 ne).trans e,n,ne,nf,d⟩
 ·have hfn:X.fn x=true:=by
   rcases hf with z|z
   ·exact z
   ·rw [z] at hk;cases hk
  obtain ⟨c,hc⟩:=I.ok.has x (.inl hk)
  obtain ⟨w',z⟩:=I.cell x c hc
  refine wpAny_storeName_cell I.ok.kind hk hc z (fun h' hc' hs=>?_)
  obtain ⟨oc,hoc,hocd⟩:=id z
  refine h { s with heap:=h' } ⟨I.ok,I.os,I.bare,⟨fun b o e n hb hx=>?_,fun b o e n hb hx=>?_,I.base.free,fun b o e hx=>?_,I.base.tups,I.base.frzs,I.base.tbls⟩,⟨m,hn.sameBut hs (Ne.symm (cne x c hc)),fun j y v' e1 e2 e3=>?_⟩,fun y c' e=>?_,I.free,I.freeC,fun p hp=>?_,tracked ⟨oc,hoc,I.freeC x c hc⟩ hs,by simpa using I.len⟩ ⟨c,hs,.inr hc⟩
  ·exact (hs.2 b (Nat.ne_of_lt (Nat.lt_of_lt_of_le (Heap.lt_size e) (I.ok.cab x c hfn hc)))).trans (I.base.keep b o e n hb hx)
  ·obtain ⟨sl,e1⟩:=I.base.slot b o e n hb hx
   exact ⟨sl,(hs.2 b (Nat.ne_of_lt (Nat.lt_of_lt_of_le (Heap.lt_size e) (I.ok.cab x c hfn hc)))).trans e1⟩
  ·obtain ⟨o',e1⟩:=I.base.there b o e hx
   exact ⟨o',(hs.2 b (Nat.ne_of_lt (Nat.lt_of_lt_of_le (Heap.lt_size e) (I.ok.cab x c hfn hc)))).trans e1⟩
  ·by_cases hj:j=i
   ·subst hj
    rw [hi] at e1;cases e1
    rw [List.getElem?_set_self hiσ] at e2
    cases e2
    exact ⟨u,r,.inr ⟨.inl hk,c,hc,hc'⟩⟩
   ·rw [List.getElem?_set_ne (Ne.symm hj)] at e2
    obtain ⟨u',r',q⟩:=hl j y v' e1 e2 e3
    refine ⟨u',r',?_⟩
    rcases q with q|⟨k,c',e,z'⟩
    ·exact .inl q
    ·refine .inr ⟨k,c',e,z'.sameBut hs ?_⟩
     rintro rfl
     exact hj (nodup_ix hN e1 (I.ok.inj _ _ _ e hc ▸ hi))
  ·by_cases hcc:c'=c
   ·subst hcc;exact ⟨_,hc'⟩
   ·obtain ⟨w2,z2⟩:=I.cell y c' e
    exact ⟨w2,z2.sameBut hs hcc⟩
  ·obtain ⟨e,n,ne,nf,d⟩:=I.pin p hp
   refine ⟨(hs.2 p.1 ?_).trans e,n,ne,nf,d⟩
   intro q
   rw [q,hoc] at e
   have q':oc=p.2:=Option.some.inj e
   exact d w' (by rw [← q'];exact hocd)
theorem store_ok {M:Model} {A:Around} {E:Value->Shared->Prop} {i:Nat} {x:Str} {v:V} {u:Value} {Q:Unit->Shared->Prop} (I:Inv X pins σ H s) (hN:X.N.Nodup) (hi:X.N[i]?=some x) (hx:Loc X.env.scope x) (r:RelV v u)
 (h:∀ s',Inv X pins (σ.set i (some v)) H s'->Q () s') (hf:X.fn x=true∨X.env.scope.names.lookup x=some .local:=by first|exact .inl rfl|exact .inr rfl|assumption):wpAny M A (storeName X.env x u) Q E s:=
 store_ok2 I hN hi hx r (fun s' I' _=>h s' I') hf
theorem Inv.call' {s':Shared} {ch:List Addr} (I:Inv X pins σ H s) (ho:s'.os=s.os) (u:Un (frs X.stack) ch H H' s.heap s'.heap) (hok:HOk X.prog X.w H' s'.heap) (hg:AllBare s'.gens)
 (hch:∀ b∈ch,(b∈X.ex∨X.s₀.heap.objs.size≤b)/\b≠X.env.locals/\(∀ x c,X.env.cells.lookup x=some c->c≠b)/\∀ p∈X.pn++pins,p.1≠b):Inv X pins σ H' s':=by
 obtain ⟨h',g',d',t',o'⟩:=s'
 have e:o'=s.os:=ho
 subst e
 exact I.call (g':=g') (t':=t') (d':=d') u hok hg hch
end
abbrev XK:=Value->Option Addr->Hp->Prop
abbrev St:=List (Option V)
abbrev VK:=V->Hp->Prop
abbrev TE:=St->Hp->VK->Prop
abbrev TT:=St->Hp->(Bool->Hp->Prop)->Prop
abbrev TA:=St->Hp->(List V->Hp->Prop)->Prop
structure Ends where
 nx:St->Hp->Prop
 rt:VK
 bk:St->Hp->Prop:=fun _ _=>False
 ct:St->Hp->Prop:=fun _ _=>False
abbrev TS:=Ends->St->Hp->Prop
def EP (X:Cx) (pins:List (Addr×Obj)) (σ:St) (Q:VK) (u:Value) (s':Shared):Prop:=∃ v H',Inv X pins σ H' s'/\RelV v u/\Q v H'
def TP (X:Cx) (pins:List (Addr×Obj)) (σ:St) (Q:Bool->Hp->Prop) (b:Bool) (s':Shared):Prop:=∃ H',Inv X pins σ H' s'/\Q b H'
def AP (X:Cx) (pins:List (Addr×Obj)) (σ:St) (Q:List V->Hp->Prop) (us:List Value) (s':Shared):Prop:=∃ vs H',Inv X pins σ H' s'/\Vals vs us/\Q vs H'
def SP (X:Cx) (pins:List (Addr×Obj)) (D:Ends) (f:Flow) (s':Shared):Prop:=
 match f with
 |.next=>∃ σ' H',Inv X pins σ' H' s'/\D.nx σ' H'
 |.brk=>∃ σ' H',Inv X pins σ' H' s'/\D.bk σ' H'
 |.cont=>∃ σ' H',Inv X pins σ' H' s'/\D.ct σ' H'
 |.ret u=>∃ v σ' H',Inv X pins σ' H' s'/\RelV v u/\D.rt v H'
def PE (X:Cx) (e:Expr) (t:TE):Prop:=
 ∀ (pins:List (Addr×Obj)) (s:Shared) (σ:St) (H:Hp) (Q:VK),Inv X pins σ H s->t σ H Q->wpAny (model X.prog X.w) X.A (eval e X.env) (EP X pins σ Q) X.xe s
def PT (X:Cx) (e:Expr) (t:TT):Prop:=
 ∀ (pins:List (Addr×Obj)) (s:Shared) (σ:St) (H:Hp) (Q:Bool->Hp->Prop),Inv X pins σ H s->t σ H Q->wpAny (model X.prog X.w) X.A (isTrue e X.env (eval e X.env)) (TP X pins σ Q) X.xe s
def PW (X:Cx) (e:Expr) (t:TT):Prop:=
 ∀ (whole:Sem Value) (pins:List (Addr×Obj)) (s:Shared) (σ:St) (H:Hp) (Q:Bool->Hp->Prop),Inv X pins σ H s->t σ H Q->wpAny (model X.prog X.w) X.A (isTrue e X.env whole) (TP X pins σ Q) X.xe s
theorem PW.pt {X:Cx} {e:Expr} {t:TT} (h:PW X e t):PT X e t:=h _
def PA (X:Cx) (es:List Expr) (t:TA):Prop:=
 ∀ (pos:Pos) (pins:List (Addr×Obj)) (s:Shared) (σ:St) (H:Hp) (Q:List V->Hp->Prop),Inv X pins σ H s->t σ H Q->wpAny (model X.prog X.w) X.A (spliced (backTo pos (starEach es X.env))) (AP X pins σ Q) X.xe s
def PS (X:Cx) (st:Stmt) (t:TS):Prop:=
 ∀ (pins:List (Addr×Obj)) (s:Shared) (σ:St) (H:Hp) (D:Ends),Inv X pins σ H s->t D σ H->wpAny (model X.prog X.w) X.A (exec st X.env) (SP X pins D) X.xe s
def PSs (X:Cx) (st:List Stmt) (t:TS):Prop:=
 ∀ (pins:List (Addr×Obj)) (s:Shared) (σ:St) (H:Hp) (D:Ends),Inv X pins σ H s->t D σ H->wpAny (model X.prog X.w) X.A (execs st X.env) (SP X pins D) X.xe s
theorem thn {α:Type} {t:Sem α} {Q Q':α->Shared->Prop} {M:Model} {A:Around} {E:Value->Shared->Prop} {s:Shared} (h:wpAny M A t Q E s) (hQ:∀ a s,Q a s->Q' a s):wpAny M A t Q' E s:=wpAny_mono h hQ fun _ _ x=>x
section
variable {X:Cx}
theorem bin {a b:Expr} {ta tb:TE} (ha:PE X a ta) (hb:PE X b tb) {pins:List (Addr×Obj)} {s:Shared} {σ:St} {H:Hp} {R:V->V->Hp->Prop} (I:Inv X pins σ H s) (h:ta σ H fun x H1=>tb σ H1 fun y H2=>R x y H2)
 {α:Type} {Q:α->Shared->Prop} {f:Value->Value->Sem α}
 (hf:∀ v u s2 x y H2,Inv X pins σ H2 s2->RelV x v->RelV y u->R x y H2->wpAny (model X.prog X.w) X.A (f v u) Q X.xe s2) :
 wpAny (model X.prog X.w) X.A (eval a X.env) (fun v s₁=>wpAny (model X.prog X.w) X.A (eval b X.env) (fun u s₂=>wpAny (model X.prog X.w) X.A (f v u) Q X.xe s₂) X.xe s₁) X.xe s:=by
 refine thn (ha pins s σ H _ I h) fun v s1 ⟨x,H1,I1,r1,q1⟩=>?_
 refine thn (hb pins s1 σ H1 _ I1 q1) fun u s2 ⟨y,H2,I2,r2,q2⟩=>?_
 exact hf v u s2 x y H2 I2 r1 r2 q2
def tVar (i:Nat):TE:=fun σ H Q=>∃ v,σ[i]?=some (some v)/\Q v H
def tC (v:V):TE:=fun _ H Q=>Q v H
theorem pe_var {i:Nat} {x:Str} {pos:Pos} (hN:X.N[i]?=some x) (hv:Vis X.env.scope x) (hd:(x == ("__debug__" : Str))=false:=by decide) (hcd:(x == ("__classdict__" : Str))=false:=by decide):PE X (.Name x pos) (tVar i):=by
 intro pins s σ H Q I h
 obtain ⟨v,e,h⟩:=h
 obtain ⟨m,hn,hl⟩:=I.loc
 obtain ⟨u,r,l⟩:=hl i x v hN e hv
 have fin:EP X pins σ Q u s:=⟨v,H,I,r,h⟩
 rcases l with ⟨hk,hm⟩|⟨hk,c,hc,hcell⟩
 ·exact wpAny_Name (wpAny_loadName_local I.ok.kind hk hn hm fin) hd
 ·rcases hk with hk|hk
  ·exact wpAny_Name (wpAny_loadName_cell I.ok.kind hk hc hcell fin) hd
  ·exact wpAny_Name (wpAny_loadName_free I.ok.kind hk hc hcell fin hcd) hd
theorem pe_int {i j pos}:PE X (.Constant (.int i) j pos) (tC (.int i)):=fun _ _ _ H _ I h=>wpAny_Constant_int ⟨.int i,H,I.tok _,⟨_,rfl⟩,h⟩
theorem pe_bl {b j pos}:PE X (.Constant (.bool b) j pos) (tC (.bl b)):=fun _ _ _ H _ I h=>Constant_bool ⟨.bl b,H,I,rfl,h⟩
theorem pe_non {j pos}:PE X (.Constant .none j pos) (tC .non):=fun _ _ _ H _ I h=>Constant_none ⟨.non,H,I,rfl,h⟩
theorem pe_str {x j pos}:PE X (.Constant (.str x) j pos) (tC (.str x)):=fun _ _ _ H _ I h=>Calls.Constant_str ⟨.str x,H,I.tok _,⟨_,rfl⟩,h⟩
def Gl (X:Cx) (x:Str):Prop:=X.env.kindOf x=some .globalImplicit
theorem ld_glob {E:Value->Shared->Prop} {pins:List (Addr×Obj)} {s:Shared} {σ:St} {H:Hp} {x:Str} {u:Value} {pos:Pos} {Q:Value->Shared->Prop} (I:Inv X pins σ H s) (hg:Gl X x) (hm:X.mg x=some u) (h:Q u s)
 (hd:(x == ("__debug__" : Str))=false:=by decide):wpAny (model X.prog X.w) X.A (eval (.Name x pos) X.env) Q E s:=
 Calls.Name_function_global I.ok.kind hg (Calls.loadGlobal_global (by rw [I.ok.glob];exact I.mod.glob.keeps I.bk) hm h) hd
theorem ld_blt {E:Value->Shared->Prop} {pins:List (Addr×Obj)} {s:Shared} {σ:St} {H:Hp} {x:Str} {u:Value} {pos:Pos} {Q:Value->Shared->Prop} (I:Inv X pins σ H s) (hg:Gl X x) (hm:X.mg x=none) (hv:bootBuiltins x=some u) (h:Q u s)
 (hn:x ≠ "__name__":=by decide) (hd:(x == ("__debug__" : Str))=false:=by decide):wpAny (model X.prog X.w) X.A (eval (.Name x pos) X.env) Q E s:=by
 obtain ⟨mb,h1,h2⟩:=I.mod.blt
 exact Calls.Name_function_global I.ok.kind hg (Calls.loadGlobal_builtin (by rw [I.ok.glob];exact I.mod.glob.keeps I.bk) hm (by rw [I.ok.blt];exact h1.keeps I.bk) ((h2 x hn).trans hv) h) hd
theorem pe_glob {x:Str} {v:V} {u:Value} {pos:Pos} (hg:Gl X x) (hm:X.mg x=some u) (r:RelV v u) (hd:(x == ("__debug__" : Str))=false:=by decide):PE X (.Name x pos) (tC v):=
 fun _ _ _ H _ I h=>ld_glob I hg hm ⟨v,H,I,r,h⟩ hd
theorem pe_bltn {x:Str} {v:V} {u:Value} {pos:Pos} (hg:Gl X x) (hm:X.mg x=none) (hv:bootBuiltins x=some u) (r:RelV v u) (hn:x ≠ "__name__":=by decide) (hd:(x == ("__debug__" : Str))=false:=by decide):PE X (.Name x pos) (tC v):=
 fun _ _ _ H _ I h=>ld_blt I hg hm hv ⟨v,H,I,r,h⟩ hn hd
variable {a b:Expr} {ta tb:TE} {pos:Pos}
def PC (X:Cx) (op:CmpOp) (a b:Expr) (t:TE):Prop:=
 ∀ (pins:List (Addr×Obj)) (s:Shared) (σ:St) (H:Hp) (Q:VK),Inv X pins σ H s->t σ H Q->
   wpAny (model X.prog X.w) X.A (eval a X.env) (fun v s₁=>wpAny (model X.prog X.w) X.A (eval b X.env) (fun u s₂=>wpAny (model X.prog X.w) X.A (compareOp op v u) (EP X pins σ Q) X.xe s₂) X.xe s₁) X.xe s
def tB (t:TE):TT:=fun σ H Q=>t σ H fun x H1=>∃ c,x=.bl c/\Q c H1
theorem pt_cmp {op:CmpOp} {t:TE} (h:PC X op a b t) (h1:behindInMarks op b=false:=by first|exact nobehind _ (by decide) (by decide)|rfl):PT X (.Compare a [op] [b] pos) (tB t):=by
 intro pins s σ H Q I hw
 refine wpAny_isTrue_Compare1 (thn (h pins s σ H _ I hw) fun v s1 h1=>thn h1 fun u s2 h2=>thn h2 fun c s3 ⟨x,H1,I1,r1,q1⟩=>?_) h1
 obtain ⟨d,rfl,q⟩:=q1
 cases r1
 exact wpAny_truthy_bool ⟨H1,I1,q⟩
theorem pt_val {e:Expr} {t:TE} (h:PE X e t) (he:∀ whole,isTrue e X.env whole=(do let v ← whole;standAt e.pos;holding [v] (truthy v)):=by intro _;rfl):PT X e (tB t):=by
 intro pins s σ H Q I hw
 refine isTrue_plain (thn (h pins s σ H _ I hw) fun v s1 ⟨x,H1,I1,r1,q1⟩=>?_) (he _)
 obtain ⟨d,rfl,q⟩:=q1
 cases r1
 exact wpAny_truthy_bool ⟨H1,I1,q⟩
variable {tA tB':TT} {rest:List Expr}
def tAnd (t u:TT):TT:=fun σ H Q=>t σ H fun c H1=>if c=true then u σ H1 Q else Q false H1
def tOr (t u:TT):TT:=fun σ H Q=>t σ H fun c H1=>if c=true then Q true H1 else u σ H1 Q
def tNot (t:TT):TT:=fun σ H Q=>t σ H fun c H1=>Q (!c) H1
theorem pw_and1 (ha:PT X a tA):PW X (.BoolOp .And [a] pos) tA:=by
 intro wh pins s σ H Q I h
 refine isTrue_and (thn (ha pins s σ H Q I h) fun c s1 e=>?_)
 cases c with
 |true=>exact isTrue_and_nil e
 |false=>exact e
theorem pw_or1 (ha:PT X a tA):PW X (.BoolOp .Or [a] pos) tA:=by
 intro wh pins s σ H Q I h
 refine isTrue_or (thn (ha pins s σ H Q I h) fun c s1 e=>?_)
 cases c with
 |false=>exact isTrue_or_nil e
 |true=>exact e
theorem pw_and (ha:PT X a tA) (hb:PW X (.BoolOp .And (b::rest) pos) tB'):PW X (.BoolOp .And (a::b::rest) pos) (tAnd tA tB'):=by
 intro wh pins s σ H Q I h
 refine isTrue_and (thn (ha pins s σ H _ I h) fun c s1 ⟨H1,I1,q1⟩=>?_)
 cases c with
 |true=>exact hb wh pins s1 σ H1 Q I1 q1
 |false=>exact ⟨H1,I1,q1⟩
theorem pw_or (ha:PT X a tA) (hb:PW X (.BoolOp .Or (b::rest) pos) tB'):PW X (.BoolOp .Or (a::b::rest) pos) (tOr tA tB'):=by
 intro wh pins s σ H Q I h
 refine isTrue_or (thn (ha pins s σ H _ I h) fun c s1 ⟨H1,I1,q1⟩=>?_)
 cases c with
 |true=>exact ⟨H1,I1,q1⟩
 |false=>exact hb wh pins s1 σ H1 Q I1 q1
theorem pt_not (ha:PT X a tA):PT X (.UnaryOp .Not a pos) (tNot tA):=by
 intro pins s σ H Q I h
 exact isTrue_not (ha pins s σ H (fun c H1=>Q (!c) H1) I h)
def tAndV (ta tb:TE):TE:=fun σ H Q=>ta σ H fun x H1=>∃ c,x=.bl c/\if c=true then tb σ H1 Q else Q (.bl false) H1
def tNotV (ta:TE):TE:=fun σ H Q=>ta σ H fun x H1=>∃ c,x=.bl c/\Q (.bl (!c)) H1
theorem pe_one {op} {t:TE} (h:PE X a t):PE X (.BoolOp op [a] pos) t:=fun pins s σ H Q I hw=>BoolOp_one (h pins s σ H Q I hw)
theorem pe_and (ha:PE X a ta) (hb:PE X (.BoolOp .And (b::rest) pos) tb):PE X (.BoolOp .And (a::b::rest) pos) (tAndV ta tb):=by
 intro pins s σ H Q I h
 refine BoolOp_and (thn (ha pins s σ H _ I h) fun v s1 ⟨x,H1,I1,r1,q1⟩=>?_)
 obtain ⟨c,rfl,q1⟩:=q1
 cases r1
 refine wpAny_truthy_bool ?_
 cases c with
 |true=>exact hb pins s1 σ H1 Q I1 q1
 |false=>exact ⟨.bl false,H1,I1,rfl,q1⟩
theorem pe_not (ha:PE X a ta):PE X (.UnaryOp .Not a pos) (tNotV ta):=by
 intro pins s σ H Q I h
 refine UnaryOp_ (thn (ha pins s σ H _ I h) fun v s1 ⟨x,H1,I1,r1,q1⟩=>?_)
 obtain ⟨c,rfl,q1⟩:=q1
 cases r1
 exact not_of (wpAny_truthy_bool ⟨.bl (!c),H1,I1,rfl,q1⟩)
def tIf (t:TT) (ta tb:TE):TE:=fun σ H Q=>t σ H fun c H1=>if c=true then ta σ H1 Q else tb σ H1 Q
theorem pe_ifExp {c:Expr} (hc:PT X c tA) (ha:PE X a ta) (hb:PE X b tb):PE X (.IfExp c a b pos) (tIf tA ta tb):=by
 intro pins s σ H Q I h
 refine wpAny_IfExp (thn (hc pins s σ H _ I h) fun d s1 ⟨H1,I1,q1⟩=>?_)
 cases d with
 |true=>exact ha pins s1 σ H1 Q I1 q1
 |false=>exact hb pins s1 σ H1 Q I1 q1
end
def SqL (K:PySem.W.Frag) (H:Hp) (a:Addr) (xs:List V):Prop:=
 Rd H a (.lst xs)∨
  ∃ (o:Obj) (its:Array Value) (n:Nat),K.lookup a=some o/\o.cls=.type "list"/\o.dict=none/\o.data=.seq its n/\its.size≤sizeLine/\Vals xs its.toList
def SqT (K:PySem.W.Frag) (H:Hp) (a:Addr) (xs:List V):Prop:=
 Rd H a (.tup xs)∨
  ∃ (o:Obj) (its:Array Value) (n:Nat),K.lookup a=some o/\o.cls=.type "tuple"/\o.data=.seq its n/\its.size≤sizeLine/\Vals xs its.toList
def absV:Value->Option V
 |.none=>some .non
 |.bool b=>some (.bl b)
 |.int i _=>some (.int i)
 |.str x _=>some (.str x)
 |.bytes b _=>some (.byt b)
 |.float b _=>some (.flt b)
 |.ref a=>some (.ref a)
 |.type n=>some (.ty n)
 |_=>none
theorem RelV.abs {x:V} {u:Value} (r:RelV x u):absV u=some x:=by
 cases x with
 |non=>cases r;rfl
 |bl _=>cases r;rfl
 |int _=>obtain ⟨t,rfl⟩:=r;rfl
 |str _=>obtain ⟨t,rfl⟩:=r;rfl
 |byt _=>obtain ⟨t,rfl⟩:=r;rfl
 |flt _=>obtain ⟨t,rfl⟩:=r;rfl
 |ref _=>cases r;rfl
 |ty _=>cases r;rfl
theorem RelV.inj {x y:V} {u:Value} (r:RelV x u) (q:RelV y u):x=y:=Option.some.inj (r.abs.symm.trans q.abs)
theorem Vals.inj:∀ {xs ys:List V} {us:List Value},Vals xs us->Vals ys us->xs=ys
 |_,_,_,.nil,.nil=>rfl
 |_,_,_,.cons r t,.cons r' t'=>by rw [r.inj r',Vals.inj t t']
section
variable {X:Cx} {pins:List (Addr×Obj)} {σ:St} {H:Hp} {s:Shared} {a:Addr} {xs ys:List V}
theorem SqL.of {K:PySem.W.Frag} (h:H a=some (.lst xs)):SqL K H a xs:=.inl (.inl h)
theorem SqT.of {K:PySem.W.Frag} (h:H a=some (.tup xs)):SqT K H a xs:=.inl (.inl h)
theorem Inv.list (I:Inv X pins σ H s) (h:SqL X.K H a xs):∃ its:List Value,Vals xs its/\PlainL s.heap a its.toArray/\xs.length≤sizeLine:=by
 rcases h with h|⟨o,its,n,hk,hc,hd,hs,hz,r⟩
 ·obtain ⟨z,its,n,r,e⟩:=h.ok I.hok
  exact ⟨its,r,⟨_,n,e,rfl,rfl,rfl⟩,z⟩
 ·refine ⟨its.toList,r,⟨o,n,I.kIn a o hk,hc,hd,by simpa using hs⟩,?_⟩
  have e:=r.length
  simp only [Array.length_toList] at e
  omega
theorem Inv.tuple (I:Inv X pins σ H s) (h:SqT X.K H a xs):∃ its:List Value,Vals xs its/\IsTup s.heap a its.toArray/\xs.length≤sizeLine:=by
 rcases h with h|⟨o,its,n,hk,hc,hs,hz,r⟩
 ·obtain ⟨z,its,r,p⟩:=h.ok I.hok
  exact ⟨its,r,p,z⟩
 ·refine ⟨its.toList,r,⟨o,I.kIn a o hk,hc,n,by simpa using hs⟩,?_⟩
  have e:=r.length
  simp only [Array.length_toList] at e
  omega
theorem Inv.list_inj (I:Inv X pins σ H s) (h:SqL X.K H a xs) (h':SqL X.K H a ys):xs=ys:=by
 obtain ⟨its,r,⟨o,n,e,_,_,d⟩,_⟩:=I.list h
 obtain ⟨its',r',⟨o',n',e',_,_,d'⟩,_⟩:=I.list h'
 rw [e] at e';cases e'
 rw [d] at d'
 injection d' with d1 _
 have:its=its':=by simpa using congrArg Array.toList d1
 subst this
 exact r.inj r'
theorem Inv.tuple_inj (I:Inv X pins σ H s) (h:SqT X.K H a xs) (h':SqT X.K H a ys):xs=ys:=by
 obtain ⟨its,r,⟨o,e,_,n,d⟩,_⟩:=I.tuple h
 obtain ⟨its',r',⟨o',e',_,n',d'⟩,_⟩:=I.tuple h'
 rw [e] at e';cases e'
 rw [d] at d'
 injection d' with d1 _
 have:its=its':=by simpa using congrArg Array.toList d1
 subst this
 exact r.inj r'
end
abbrev Cx.wish (X:Cx) (E:Value->Shared->Prop):Cx:={ X with xe:=E }
abbrev Cx.nox (X:Cx):Cx:=X.wish fun _ _=>False
theorem Cx.Ok.wish {X:Cx} (ok:X.Ok) (E:Value->Shared->Prop):(X.wish E).Ok:=
 ⟨ok.mod,ok.kind,ok.glob,ok.blt,ok.above,ok.inj,ok.has,ok.cab,ok.hd,ok.frames,ok.stk,ok.exf,ok.bs,ok.bsz,ok.noex,ok.exfs,ok.funs,ok.frf⟩
theorem Cx.Ok.unwish {X:Cx} {E:Value->Shared->Prop} (ok:(X.wish E).Ok):X.Ok:=
 ⟨ok.mod,ok.kind,ok.glob,ok.blt,ok.above,ok.inj,ok.has,ok.cab,ok.hd,ok.frames,ok.stk,ok.exf,ok.bs,ok.bsz,ok.noex,ok.exfs,ok.funs,ok.frf⟩
section
variable {X:Cx} {pins:List (Addr×Obj)} {σ:St} {H:Hp} {s:Shared} {E:Value->Shared->Prop}
theorem Inv.wish (I:Inv X pins σ H s) (E:Value->Shared->Prop):Inv (X.wish E) pins σ H s:=⟨I.ok.wish E,I.os,I.bare,I.base,I.loc,I.cell,I.free,I.freeC,I.pin,I.hok,I.len⟩
theorem Inv.unwish (I:Inv (X.wish E) pins σ H s):Inv X pins σ H s:=⟨I.ok.unwish,I.os,I.bare,I.base,I.loc,I.cell,I.free,I.freeC,I.pin,I.hok,I.len⟩
theorem SP.unwish {D:Ends} {f:Flow} {s':Shared} (h:SP (X.wish E) pins D f s'):SP X pins D f s':=by
 cases f with
 |next=>obtain ⟨σ',H',I,q⟩:=h;exact ⟨σ',H',I.unwish,q⟩
 |brk=>obtain ⟨σ',H',I,q⟩:=h;exact ⟨σ',H',I.unwish,q⟩
 |cont=>obtain ⟨σ',H',I,q⟩:=h;exact ⟨σ',H',I.unwish,q⟩
 |ret u=>obtain ⟨v,σ',H',I,r,q⟩:=h;exact ⟨v,σ',H',I.unwish,r,q⟩
theorem PSs.nox {st:List Stmt} {t:TS} (h:PSs X.nox st t):PSs X st t:=fun pins s σ H D I hw=>
 wpAny_mono (h pins s σ H D (I.wish _) hw) (fun _ _ q=>q.unwish) fun _ _ z=>False.elim z
end
section
variable {X:Cx} {st:Stmt} {rest:List Stmt} {t u:TS} {e:Expr} {te:TE} {pos:Pos}
def tNext:TS:=fun D σ H=>D.nx σ H
def tSeq (t u:TS):TS:=fun D σ H=>t { D with nx:=u D } σ H
theorem pss_nil:PSs X [] tNext:=fun _ _ σ H _ I h=>wpAny_execs_nil ⟨σ,H,I,h⟩
theorem pss_cons (h1:PS X st t) (h2:PSs X rest u):PSs X (st::rest) (tSeq t u):=by
 intro pins s σ H D I h
 refine wpAny_execs_cons (thn (h1 pins s σ H { D with nx:=u D } I h) fun f s1 q=>?_)
 cases f with
 | next=>
   obtain ⟨σ',H',I',q⟩:=q
   exact h2 pins s1 σ' H' D I' q
 |ret v=>exact q
 |brk=>exact q
 |cont=>exact q
theorem pss_one (h1:PS X st t):PSs X [st] t:=by
 intro pins s σ H D I h
 refine wpAny_execs_cons (thn (h1 pins s σ H D I h) fun f s1 q=>?_)
 cases f with
 |next=>exact wpAny_execs_nil q
 |ret v=>exact q
 |brk=>exact q
 |cont=>exact q
theorem Inv.quiet {pins:List (Addr×Obj)} {σ:St} {H:Hp} {s:Shared} (I:Inv X pins σ H s):interactive X.env=false:=by simp [interactive,I.ok.kind]
def tDrop (te:TE):TS:=fun D σ H=>te σ H fun _ H1=>D.nx σ H1
theorem ps_expr (he:PE X e te) (hs:swapsWith e none pos.line X.env=pure false:=by rfl):PS X (.Expr e pos) (tDrop te):=by
 intro pins s σ H D I h
 exact wpAny_Expr_any (thn (he pins s σ H _ I h) fun v s1 ⟨x,H1,I1,r1,q1⟩=>⟨σ,H1,I1,q1⟩) I.quiet hs
def tRet (te:TE):TS:=fun D σ H=>te σ H D.rt
theorem ps_ret (he:PE X e te):PS X (.Return (some e) pos) (tRet te):=by
 intro pins s σ H D I h
 exact wpAny_Return_some (thn (he pins s σ H _ I h) fun v s1 ⟨x,H1,I1,r1,q1⟩=>⟨x,σ,H1,I1,r1,q1⟩)
def tIfS (c:TT) (t u:TS):TS:=fun D σ H=>c σ H fun b H1=>if b=true then t D σ H1 else u D σ H1
theorem ps_if {c:Expr} {a b:List Stmt} {tc:TT} (hc:PT X c tc) (ha:PSs X a t) (hb:PSs X b u):PS X (.If c a b pos) (tIfS tc t u):=by
 intro pins s σ H D I h
 refine wpAny_If (thn (hc pins s σ H _ I h) fun d s1 ⟨H1,I1,q1⟩=>?_)
 cases d with
 |true=>exact ha pins s1 σ H1 D I1 q1
 |false=>exact hb pins s1 σ H1 D I1 q1
def tNever:TS:=fun _ _ _=>False
theorem ps_never:PS X st tNever:=fun _ _ _ _ _ _ h=>h.elim
end
abbrev TG:=V->St->Hp->(St->Hp->Prop)->Prop
abbrev TGs:=List V->St->Hp->(St->Hp->Prop)->Prop
def PG (X:Cx) (target:Expr) (t:TG):Prop:=
 ∀ (pins:List (Addr×Obj)) (s:Shared) (σ:St) (H:Hp) (v:V) (u:Value) (Q:St->Hp->Prop),Inv X pins σ H s->RelV v u->t v σ H Q->
   wpAny (model X.prog X.w) X.A (assign target X.env u) (fun _ s'=>∃ σ' H',Inv X pins σ' H' s'/\Q σ' H') X.xe s
def PGs (X:Cx) (ts:List Expr) (t:TGs):Prop:=
 ∀ (pins:List (Addr×Obj)) (s:Shared) (σ:St) (H:Hp) (vs:List V) (us:List Value) (Q:St->Hp->Prop),Inv X pins σ H s->Vals vs us->t vs σ H Q->
   wpAny (model X.prog X.w) X.A (assignInOrder ((assignEach ts X.env).map (·.2)) us) (fun _ s'=>∃ σ' H',Inv X pins σ' H' s'/\Q σ' H') X.xe s
abbrev TSet:=V->V->V->Hp->(Hp->Prop)->Prop
def PSet (X:Cx) (t:TSet):Prop:=
 ∀ (pins:List (Addr×Obj)) (s:Shared) (σ:St) (H:Hp) (o i v:V) (ov iv u:Value) (Q:Hp->Prop),Inv X pins σ H s->RelV o ov->RelV i iv->RelV v u->t o i v H Q->
   wpAny (model X.prog X.w) X.A (setItem ov iv u) (fun _ s'=>∃ H',Inv X pins σ H' s'/\Q H') X.xe s
section
variable {X:Cx} {pos:Pos}
def gName (i:Nat):TG:=fun v σ H Q=>Q (σ.set i (some v)) H
theorem pg_name {i:Nat} {x:Str} (hN:X.N.Nodup) (hi:X.N[i]?=some x) (hx:Loc X.env.scope x) (hf:X.fn x=true∨X.env.scope.names.lookup x=some .local:=by first|exact .inl rfl|exact .inr rfl|assumption):PG X (.Name x pos) (gName i):=by
 intro pins s σ H v u Q I r h
 exact wpAny_assign_Name (store_ok I hN hi hx r (fun s' I'=>⟨_,H,I',h⟩) hf)
def gNil:TGs:=fun vs σ H Q=>vs=[]/\Q σ H
def gCons (t:TG) (u:TGs):TGs:=fun vs σ H Q=>∃ v r,vs=v::r/\t v σ H fun σ' H'=>u r σ' H' Q
theorem pgs_nil:PGs X [] gNil:=by
 intro pins s σ H vs us Q I r h
 obtain ⟨e,h⟩:=h
 subst e
 cases r
 exact assignInOrder_nil ⟨σ,H,I,h⟩
theorem pgs_cons {e:Expr} {es:List Expr} {t:TG} {u:TGs} (h1:PG X e t) (h2:PGs X es u)
 (hs:(assignEach (e::es) X.env).map (·.2)=assign e X.env::(assignEach es X.env).map (·.2):=by rfl):PGs X (e::es) (gCons t u):=by
 intro pins s σ H vs us Q I r h
 obtain ⟨v,vr,e1,h⟩:=h
 subst e1
 cases r with
 | cons r rr=>
   rw [hs]
   refine assignInOrder_cons (thn (h1 pins s σ H _ _ _ I r h) fun _ s1 ⟨σ1,H1,I1,q1⟩=>?_)
   exact h2 pins s1 σ1 H1 _ _ Q I1 rr q1
def gTup (K:PySem.W.Frag) (n:Nat) (t:TGs):TG:=fun v σ H Q=>∃ a xs,v=.ref a/\SqT K H a xs/\xs.length=n/\t xs σ H Q
theorem pg_tup {es:List Expr} {k:Nat} {t:TGs} {n:Nat} (hc:X.calm=true) (h:PGs X es t)
 (hn:(assignEach es X.env).length=n:=by rfl) (hst:(assignEach es X.env).findIdx? (·.1)=none:=by rfl):PG X (.Tuple es k pos) (gTup X.K n t):=by
 intro pins s σ H v u Q I r hw
 obtain ⟨a,xs,e1,hq,hl,hw⟩:=hw
 subst e1
 cases r
 obtain ⟨its,rv,ht,hz⟩:=I.tuple hq
 refine assign_Tuple_tuple (I.ok.hd hc) ht (by simp [hn,← hl,rv.length]) hst fun h' hx=>?_
 have I1:Inv X pins σ H { s with heap:=h' }:=I.kept (t':=s.toks) fun b o e=>hx b o (Nat.ne_of_lt (Heap.lt_size e)) e
 exact h pins _ σ H xs _ Q I1 (by simpa using rv) hw
def gSub (to ti:TE) (t:TSet):TG:=fun v σ H Q=>to σ H fun o H1=>ti σ H1 fun i H2=>t o i v H2 fun H3=>Q σ H3
theorem pg_sub {o i:Expr} {to ti:TE} {t:TSet} (ho:PE X o to) (hi:PE X i ti) (hs:PSet X t)
 (ha:∀ v,assign (.Subscript o i pos) X.env v=(do
  let ov ← holding [v] (eval o X.env)
  let iv ← holding [v,ov] (eval i X.env)
  standAt pos
  holding [v,ov,iv] (setItem ov iv v)
  release [v,ov,iv] []):=by intro _;rfl):PG X (.Subscript o i pos) (gSub to ti t):=by
 intro pins s σ H v u Q I r h
 rw [ha]
 refine wpAny_bind (wpAny_holding (thn (ho pins s σ H _ I h) fun ov s1 ⟨x,H1,I1,r1,q1⟩=>?_))
 refine wpAny_bind (wpAny_holding (thn (hi pins s1 σ H1 _ I1 q1) fun iv s2 ⟨y,H2,I2,r2,q2⟩=>?_))
 refine wpAny_bind (wpAny_standAt (wpAny_bind (wpAny_holding (thn (hs pins s2 σ H2 x y v ov iv u _ I2 r1 r2 r q2) fun _ s3 ⟨H3,I3,q3⟩=>?_))))
 exact wpAny_release ⟨σ,H3,I3,q3⟩
def tAsg (te:TE) (g:TG):TS:=fun D σ H=>te σ H fun x H1=>g x σ H1 D.nx
theorem ps_asg {tg e:Expr} {te:TE} {g:TG} (he:PE X e te) (hg:PG X tg g) (hs:swapsWithSole [tg] e pos.line X.env=pure false:=by rfl) (hw:swappedStores [tg] e X.env=pure none:=by rfl)
 (h1:(assignEach [tg] X.env).map (·.2)=[assign tg X.env]:=by rfl):PS X (.Assign [tg] e pos) (tAsg te g):=by
 intro pins s σ H D I h
 refine wpAny_Assign_stores (thn (he pins s σ H _ I h) fun v s1 ⟨x,H1,I1,r1,q1⟩=>?_) hs hw
 rw [h1]
 exact thn (hg pins s1 σ H1 x v _ I1 r1 q1) fun _ s2 q=>q
theorem ps_set {i:Nat} {x:Str} {e:Expr} {te:TE} {pos':Pos} (hN:X.N.Nodup) (hi:X.N[i]?=some x) (hx:Loc X.env.scope x) (he:PE X e te) (hs:swapsWith e (some (.Name x pos')) pos.line X.env=pure false:=by rfl) (hf:X.fn x=true∨X.env.scope.names.lookup x=some .local:=by first|exact .inl rfl|exact .inr rfl|assumption) :
 PS X (.Assign [.Name x pos'] e pos) (tAsg te (gName i)):=by
 intro pins s σ H D I h
 refine wpAny_Assign_Name (thn (he pins s σ H _ I h) fun v s1 ⟨y,H1,I1,r1,q1⟩=>?_) hs
 exact store_ok I1 hN hi hx r1 (fun s2 I2=>⟨_,H1,I2,q1⟩) hf
end
section
variable {X:Cx} {pos:Pos}
end
structure It where
 go:Nat->Hp->Prop
 yld:Nat->Hp->V->Hp->Prop
 stop:Nat->Hp->Prop
def FpOk (X:Cx) (pins:List (Addr×Obj)) (H:Hp) (b:Addr):Prop:=
 H b=none/\b≠X.env.locals/\b∉X.fs/\(b∈X.ex∨X.s₀.heap.objs.size≤b)/\(∀ x c,X.env.cells.lookup x=some c->c≠b)/\∀ p∈X.pn++pins,p.1≠b
theorem Inv.fpOk {X:Cx} {pins:List (Addr×Obj)} {σ:St} {H H':Hp} {s:Shared} {b:Addr} (I:Inv X pins σ H s) (hb:s.heap.objs.size≤b) (hn:H' b=none):FpOk X pins H' b:=by
 refine ⟨hn,Nat.ne_of_gt (Nat.lt_of_lt_of_le I.lt hb),I.nofs hb,.inr (Nat.le_trans I.sz hb),fun x c e z=>?_,fun p hp z=>?_⟩
 ·obtain ⟨v,q⟩:=I.cell x c e
  exact absurd (Nat.lt_of_lt_of_le q.lt (by rw [z];exact hb)) (Nat.lt_irrefl _)
 ·exact absurd (Nat.lt_of_lt_of_le (Heap.lt_size (I.pin p hp).1) (by rw [z];exact hb)) (Nat.lt_irrefl _)
structure Turn (P:Program) (w:World) (K:PySem.W.Frag) (tg:Expr) (J:It) (fp:List Addr) (it:Addr) (tn:Nat->Heap->Prop):Prop where
 mem:it∈fp
 obj:∀ i h,tn i h->∀ b∈fp,∃ o,h.get? b=some o/\∀ v,o.data≠.cell v
 keep:∀ i h h',tn i h->(∀ b∈fp,∀ o,h.get? b=some o->h'.get? b=some o)->tn i h'
 item:∀ (X:Cx),X.prog=P->X.w=w->X.K=K->X.calm=true->∀ (i:Nat) (pins:List (Addr×Obj)) (s:Shared) (σ:St) (H:Hp) (E:Value->Shared->Prop),Inv X pins σ H s->(∀ b∈fp,FpOk X pins H b)->tn i s.heap->J.go i H->
  wpAny (model P w) X.A (pyNext (.ref it)) (fun r s1=>∃ u,r=some u/\
   wpAny (model P w) X.A (letOwnedTupleGo tg (.ref it) u) (fun _ s2=>∃ x H',Inv X pins σ H' s2/\RelV x u/\J.yld i H x H'/\tn (i+1) s2.heap/\∀ b∈fp,H' b=none) E s1) E s
 done:∀ (X:Cx),X.prog=P->X.w=w->X.K=K->X.calm=true->∀ (i:Nat) (pins:List (Addr×Obj)) (s:Shared) (σ:St) (H:Hp) (E:Value->Shared->Prop),Inv X pins σ H s->(∀ b∈fp,FpOk X pins H b)->tn i s.heap->J.stop i H->
  wpAny (model P w) X.A (pyNext (.ref it)) (fun r s1=>r=none/\Inv X pins σ H s1) E s
 self:∀ (A:Around) (i:Nat) (s:Shared) (Q:Value->Shared->Prop) (E:Value->Shared->Prop),tn i s.heap->Q (.ref it) s->wpAny (model P w) A (pyIter (.ref it)) Q E s
abbrev TI:=St->Hp->(It->Hp->Prop)->Prop
def PIE (X:Cx) (pins:List (Addr×Obj)) (σ:St) (tg:Expr) (R:It->Hp->Prop) (itv:Value) (s2:Shared):Prop:=
 ∃ (it:Addr) (fp:List Addr) (tn:Nat->Heap->Prop) (J:It) (H':Hp),itv=.ref it/\Inv X pins σ H' s2/\Turn X.prog X.w X.K tg J fp it tn/\tn 0 s2.heap/\(∀ b∈fp,FpOk X pins H' b)/\R J H'
def PI (X:Cx) (tg iter:Expr) (wi:TI):Prop:=
 ∀ (pins:List (Addr×Obj)) (s:Shared) (σ:St) (H:Hp) (R:It->Hp->Prop),Inv X pins σ H s->wi σ H R->
   wpAny (model X.prog X.w) X.A (eval iter X.env) (fun v s1=>wpAny (model X.prog X.w) X.A (pyIter v) (PIE X pins σ tg R) X.xe s1) X.xe s
theorem go_of {M:Model} {A:Around} {E:Value->Shared->Prop} {s:Shared} {tg:Expr} {it:Addr} {u:Value} {o:Obj} {n:String} {vs:Array Value} {Q:Unit->Shared->Prop} (ho:s.heap.get? it=some o) (hc:o.cls=.type n) (hd:o.data=.fields vs)
 (hn:["enumerate","zip","dict_itemiterator","dict_reverseitemiterator","odict_iterator","itertools.zip_longest","itertools.pairwise"].contains n=false) (hQ:Q () s):wpAny M A (letOwnedTupleGo tg (.ref it) u) Q E s:=by
 unfold letOwnedTupleGo
 cases tg <;> first
  |exact wpAny_pure hQ
  |(cases u <;> first
   |exact wpAny_pure hQ
   | (refine wpAny_bind (wpAny_load ho ?_)
      rw [hc,hd]
      show wpAny M A (if (["enumerate","zip","dict_itemiterator","dict_reverseitemiterator","odict_iterator","itertools.zip_longest","itertools.pairwise"].contains n && vs[0]? == some (rawInt _))=true then _ else _) Q E s
      rw [if_neg (by intro h;rw [hn,Bool.false_and] at h;cases h)]
      exact wpAny_pure hQ))
def Itl (K:PySem.W.Frag) (a:Addr):It:=
 ⟨fun i H=>∃ xs x,SqL K H a xs/\xs[i]?=some x,fun i H x H'=>H'=H/\∀ xs,SqL K H a xs->xs[i]?=some x,fun i H=>∃ xs,SqL K H a xs/\xs.length≤i⟩
def Itt (K:PySem.W.Frag) (a:Addr):It:=
 ⟨fun i H=>∃ xs x,SqT K H a xs/\xs[i]?=some x,fun i H x H'=>H'=H/\∀ xs,SqT K H a xs->xs[i]?=some x,fun i H=>∃ xs,SqT K H a xs/\xs.length≤i⟩
def Itr (lo:Int) (n:Nat):It:=⟨fun i _=>i<n,fun i H x H'=>H'=H/\x=.int (lo+i),fun i _=>n≤i⟩
theorem turn_list {P:Program} {w:World} {K:PySem.W.Frag} {tg:Expr} (a it:Addr):Turn P w K tg (Itl K a) [it] it (fun i h=>h.IsListIter it a i) where
 mem:=by simp
 obj:=fun i h st b hb=>by
  have e:b=it:=by simpa using hb
  subst e
  obtain ⟨o,e,c,d⟩:=st
  exact ⟨o,e,fun v z=>by rw [d] at z;cases z⟩
 keep:=fun i h h' st k=>st.at fun o e=>k it (by simp) o e
 item:=by
  intro X hP hw hK hc i pins s σ H E I hf st hg
  subst hP hw hK
  obtain ⟨xs,x,hq,hx⟩:=hg
  obtain ⟨its,rv,p,hz⟩:=I.list hq
  obtain ⟨u,hu,ru⟩:=rv.get hx
  obtain ⟨f0,f1,f2,f3,f4,f5⟩:=hf it (by simp)
  refine wpAny_pyNext_list_item st p.isList (x:=u) (by simpa using hu) fun h' st' sb=>?_
  have I1:Inv X pins σ H { s with heap:=h' }:=I.turned (t':=s.toks) (fun b o hb e=>(sb.2 b hb).trans e) f0 f1 f3 f4 f5
  obtain ⟨o,e,c,d⟩:=id st'
  exact ⟨u,rfl,go_of (s:={ s with heap:=h' }) e c d (by decide) ⟨x,H,I1,ru,⟨rfl,fun ys hy=>by rw [I.list_inj hy hq];exact hx⟩,st',fun b hb=>(hf b hb).1⟩⟩
 done:=by
  intro X hP hw hK hc i pins s σ H E I hf st hg
  subst hP hw hK
  obtain ⟨xs,hq,hx⟩:=hg
  obtain ⟨its,rv,p,hz⟩:=I.list hq
  obtain ⟨f0,f1,f2,f3,f4,f5⟩:=hf it (by simp)
  have hl:=rv.length
  exact wpAny_pyNext_list_end (I.ok.hd hc) st p.isList (by simp;omega) fun h' eb=>⟨rfl,I.turned (t':=s.toks) (fun b o hb e=>eb b o hb e) f0 f1 f3 f4 f5⟩
 self:=fun _ _ _ _ _ st h=>wpAny_pyIter_listiter st h
theorem turn_tuple {P:Program} {w:World} {K:PySem.W.Frag} {tg:Expr} (a it:Addr):Turn P w K tg (Itt K a) [it] it (fun i h=>h.IsTupleIter it a i) where
 mem:=by simp
 obj:=fun i h st b hb=>by
  have e:b=it:=by simpa using hb
  subst e
  obtain ⟨o,e,c,d⟩:=st
  exact ⟨o,e,fun v z=>by rw [d] at z;cases z⟩
 keep:=fun i h h' st k=>st.at fun o e=>k it (by simp) o e
 item:=by
  intro X hP hw hK hc i pins s σ H E I hf st hg
  subst hP hw hK
  obtain ⟨xs,x,hq,hx⟩:=hg
  obtain ⟨its,rv,p,hz⟩:=I.tuple hq
  obtain ⟨u,hu,ru⟩:=rv.get hx
  obtain ⟨f0,f1,f2,f3,f4,f5⟩:=hf it (by simp)
  refine wpAny_pyNext_tuple_item st (show s.heap.IsTuple a its.toArray from p) (x:=u) (by simpa using hu) fun h' st' sb=>?_
  have I1:Inv X pins σ H { s with heap:=h' }:=I.turned (t':=s.toks) (fun b o hb e=>(sb.2 b hb).trans e) f0 f1 f3 f4 f5
  obtain ⟨o,e,c,d⟩:=id st'
  exact ⟨u,rfl,go_of (s:={ s with heap:=h' }) e c d (by decide) ⟨x,H,I1,ru,⟨rfl,fun ys hy=>by rw [I.tuple_inj hy hq];exact hx⟩,st',fun b hb=>(hf b hb).1⟩⟩
 done:=by
  intro X hP hw hK hc i pins s σ H E I hf st hg
  subst hP hw hK
  obtain ⟨xs,hq,hx⟩:=hg
  obtain ⟨its,rv,p,hz⟩:=I.tuple hq
  obtain ⟨f0,f1,f2,f3,f4,f5⟩:=hf it (by simp)
  have hl:=rv.length
  exact wpAny_pyNext_tuple_end (I.ok.hd hc) st (show s.heap.IsTuple a its.toArray from p) (by simp;omega) fun h' eb=>⟨rfl,I.turned (t':=s.toks) (fun b o hb e=>eb b o hb e) f0 f1 f3 f4 f5⟩
 self:=fun _ _ _ _ _ st h=>wpAny_pyIter_tupleiter st h
theorem turn_range {P:Program} {w:World} {K:PySem.W.Frag} {tg:Expr} (it:Addr) (lo:Int) (n:Nat):Turn P w K tg (Itr lo n) [it] it (fun i h=>IsRangeIter h it (lo+(i:Nat)*1) ((n:Int)-(i:Nat)) 1) where
 mem:=by simp
 obj:=fun i h st b hb=>by
  have e:b=it:=by simpa using hb
  subst e
  exact ⟨_,st,fun v z=>by
   have z':Data.fields _=Data.cell v:=z
   cases z'⟩
 keep:=fun i h h' st k=>k it (by simp) _ st
 item:=by
  intro X hP hw hK hc i pins s σ H E I hf st hg
  subst hP hw hK
  obtain ⟨f0,f1,f2,f3,f4,f5⟩:=hf it (by simp)
  have W:=Walks.range (prog:=X.prog) (w:=X.w) (I.ok.hd hc) it lo 1 n
  refine W.item i s _ _ hg st fun v h' tk hv st' kk=>?_
  obtain ⟨t,rfl⟩:=hv
  have I1:Inv X pins σ H { s with heap:=h',toks:=tk }:=I.turned (fun b o hb e=>kk b o (by simpa using hb) e) f0 f1 f3 f4 f5
  refine ⟨_,rfl,go_of (s:={ s with heap:=h',toks:=tk }) (n:="range_iterator") st' rfl rfl (by decide) ⟨.int (lo+i),H,I1,⟨t,?_⟩,⟨rfl,rfl⟩,st',fun b hb=>(hf b hb).1⟩⟩
  rw [Int.mul_one]
 done:=by
  intro X hP hw hK hc i pins s σ H E I hf st hg
  subst hP hw hK
  obtain ⟨f0,f1,f2,f3,f4,f5⟩:=hf it (by simp)
  exact wpAny_pyNext_range_end (I.ok.hd hc) st (by have:n≤i:=hg;omega) fun h' eb=>⟨rfl,I.turned (t':=s.toks) (fun b o hb e=>eb b o hb e) f0 f1 f3 f4 f5⟩
 self:=fun _ _ _ _ _ st h=>wpAny_pyIter_rangeiter st h
section
variable {X:Cx} {tg:Expr}
def iList (K:PySem.W.Frag) (tl:TE):TI:=fun σ H R=>tl σ H fun x H1=>∃ a,x=.ref a/\(∃ xs,SqL K H1 a xs)/\R (Itl K a) H1
def iTup (K:PySem.W.Frag) (tl:TE):TI:=fun σ H R=>tl σ H fun x H1=>∃ a,x=.ref a/\(∃ xs,SqT K H1 a xs)/\R (Itt K a) H1
theorem pi_list {l:Expr} {tl:TE} (hl:PE X l tl):PI X tg l (iList X.K tl):=by
 intro pins s σ H R I h
 refine thn (hl pins s σ H _ I h) fun v s1 ⟨x,H1,I1,r1,q1⟩=>?_
 obtain ⟨a,e,⟨xs,hq⟩,q⟩:=q1
 subst e
 cases r1
 obtain ⟨its,rv,p,hz⟩:=I1.list hq
 refine wpAny_pyIter_list p.isList ?_
 refine ⟨s1.heap.objs.size,[s1.heap.objs.size],_,_,H1,rfl,I1.kept (t':=s1.toks) fun b o e=>Heap.get?_push_of_some _ e,turn_list a _,⟨_,Heap.get?_push_size _ rfl,rfl,rfl⟩,fun b hb=>?_,q⟩
 have e:b=s1.heap.objs.size:=by simpa using hb
 subst e
 exact I1.fpOk (Nat.le_refl _) (I1.hok.fresh (Nat.le_refl _))
theorem pi_tup {l:Expr} {tl:TE} (hl:PE X l tl):PI X tg l (iTup X.K tl):=by
 intro pins s σ H R I h
 refine thn (hl pins s σ H _ I h) fun v s1 ⟨x,H1,I1,r1,q1⟩=>?_
 obtain ⟨a,e,⟨xs,hq⟩,q⟩:=q1
 subst e
 cases r1
 obtain ⟨its,rv,p,hz⟩:=I1.tuple hq
 refine wpAny_pyIter_tuple (show s1.heap.IsTuple a its.toArray from p) ?_
 refine ⟨s1.heap.objs.size,[s1.heap.objs.size],_,_,H1,rfl,I1.kept (t':=s1.toks) fun b o e=>Heap.get?_push_of_some _ e,turn_tuple a _,⟨_,Heap.get?_push_size _ rfl,rfl,rfl⟩,fun b hb=>?_,q⟩
 have e:b=s1.heap.objs.size:=by simpa using hb
 subst e
 exact I1.fpOk (Nat.le_refl _) (I1.hok.fresh (Nat.le_refl _))
theorem range_it {pins:List (Addr×Obj)} {σ:St} {H:Hp} {s:Shared} {R:It->Hp->Prop} {E:Value->Shared->Prop} {lo hi:Int} {t u v:Tok} {tk:Nat} (I:Inv X pins σ H s) (h1:-(2 ^ 62)≤lo) (h2:lo<2 ^ 62) (h3:-(2 ^ 62)≤hi) (h4:hi<2 ^ 62)
 (q:R (Itr lo (hi-lo).toNat) H):wpAny (model X.prog X.w) X.A (pyIter (.ref s.heap.objs.size)) (PIE X pins σ tg R) E { s with heap:=s.heap.push { cls:=.type "range",data:=.fields #[.int lo t,.int hi u,.int 1 v] },toks:=tk }:=by
 refine wpAny_pyIter_range (IsRange.new ..) (small_one h1 h2 h3 h4) ?_
 have I1:Inv X pins σ H { s with heap:=s.heap.push { cls:=.type "range",data:=.fields #[.int lo t,.int hi u,.int 1 v] },toks:=tk }:=I.kept fun b o e=>Heap.get?_push_of_some _ e
 refine ⟨(s.heap.push { cls:=.type "range",data:=.fields #[.int lo t,.int hi u,.int 1 v] }).objs.size,[(s.heap.push { cls:=.type "range",data:=.fields #[.int lo t,.int hi u,.int 1 v] }).objs.size],_,_,H,rfl,
  I1.kept (t':=tk) fun b o e=>Heap.get?_push_of_some _ e,turn_range _ lo (hi-lo).toNat,?_,fun b hb=>?_,q⟩
 ·have e1:lo+((0:Nat):Int)*1=lo:=by simp
  have e2:(((hi-lo).toNat:Nat):Int)-((0:Nat):Int)=Builtin.Range.rangeSize lo hi 1:=by rw [rangeSize_one];split <;> omega
  show IsRangeIter _ _ (lo+((0:Nat):Int)*1) ((((hi-lo).toNat:Nat):Int)-((0:Nat):Int)) 1
  rw [e1,e2]
  exact Heap.get?_push_size _ rfl
 ·have e:b=(s.heap.push { cls:=.type "range",data:=.fields #[.int lo t,.int hi u,.int 1 v] }).objs.size:=by simpa using hb
  subst e
  exact I1.fpOk (Nat.le_refl _) (I1.hok.fresh (Nat.le_refl _))
def iRng1 (ta:TA):TI:=fun σ H R=>ta σ H fun vs H1=>∃ j:Int,vs=[.int j]/\-(2 ^ 62)≤j/\j<2 ^ 62/\R (Itr 0 j.toNat) H1
theorem pi_range1 {a:Expr} {ta:TA} {p pos:Pos} (hg:Gl X "range") (hm:X.mg "range" = none) (ha:PA X [a] ta) (hs:starEach [a] X.env=[(false,eval a X.env)]:=by rfl):PI X tg (.Call (.Name "range" p) [a] [] pos) (iRng1 ta):=by
 intro pins s σ H R I h
 refine Call_ (ld_blt I hg hm boot_range (PyProof.Rows.callWith_type1 (thn (ha pos pins s σ H _ I h) fun us s1 ⟨vs,H1,I1,r1,q1⟩=>?_) hs rfl))
 obtain ⟨j,e,q1,q2,q⟩:=q1
 subst e
 cases r1 with
 | cons r rr=>
   cases rr
   obtain ⟨t,rfl⟩:=r
   exact call_range_1 (range_it I1 (by omega) (by omega) q1 q2 (by simpa using q))
def tFor (wi:TI) (g:TG) (tb:TS):TS:=fun D σ H=>wi σ H fun J H1=>∃ W:Nat->Nat->St->Hp->Prop,(∃ m,W 0 m σ H1)/\∀ i m σ H,W i m σ H->
 (J.stop i H/\D.nx σ H)∨(J.go i H/\∃ N:St->Hp->Prop,(∀ σ' H',N σ' H'->∃ m',m'<m/\W (i+1) m' σ' H')/\∀ x H',J.yld i H x H'->g x σ H' fun σ2 H2=>tb { D with nx:=N,ct:=N,bk:=D.nx } σ2 H2)
def pinsAt (fp:List Addr) (h:Heap):List (Addr×Obj):=fp.filterMap fun b=>(h.get? b).map fun o=>(b,o)
theorem mem_pinsAt {fp:List Addr} {h:Heap} {b:Addr} {o:Obj} (hb:b∈fp) (e:h.get? b=some o):(b,o)∈pinsAt fp h:=List.mem_filterMap.mpr ⟨b,hb,by rw [e];rfl⟩
theorem of_pinsAt {fp:List Addr} {h:Heap} {p:Addr×Obj} (hp:p∈pinsAt fp h):p.1∈fp/\h.get? p.1=some p.2:=by
 obtain ⟨b,hb,e⟩:=List.mem_filterMap.mp hp
 cases q:h.get? b with
 |none=>rw [q] at e;cases e
 | some o=>
   rw [q] at e
   have e':(b,o)=p:=Option.some.inj e
   subst e'
   exact ⟨hb,q⟩
theorem Inv.pinned {pins:List (Addr×Obj)} {σ:St} {H:Hp} {s:Shared} {fp:List Addr} (I:Inv X pins σ H s) (hf:∀ b∈fp,FpOk X pins H b) (ho:∀ b∈fp,∃ o,s.heap.get? b=some o/\∀ v,o.data≠.cell v):Inv X (pins++pinsAt fp s.heap) σ H s:=
 I.pins_of fun p hp=>(List.mem_append.mp hp).elim (fun z=>I.pin p (List.mem_append_right _ z)) fun z=>by
  obtain ⟨hb,e⟩:=of_pinsAt z
  obtain ⟨f0,f1,f2,_⟩:=hf p.1 hb
  obtain ⟨o,e',d⟩:=ho p.1 hb
  rw [e] at e';cases e'
  exact ⟨e,f0,f1,f2,d⟩
theorem Inv.unpinned {pins pl:List (Addr×Obj)} {σ:St} {H:Hp} {s:Shared} (I:Inv X (pins++pl) σ H s):Inv X pins σ H s:=I.pins_of fun p hp=>I.pin p (List.mem_append_right _ (List.mem_append_left _ hp))
theorem ps_for {iter:Expr} {body:List Stmt} {wi:TI} {g:TG} {tb:TS} {pos:Pos} (hp:PassesOwn (model X.prog X.w) X.A X.env X.xe) (hc:X.calm=true) (hi:PI X tg iter wi) (hg:PG X tg g) (hb:PSs X body tb)
 (hs:∀ x,foldedSetIterable iter X.env x=pure x:=by intro _;rfl):PS X (.For tg iter body [] pos) (tFor wi g tb):=by
 intro pins s σ H D I h
 refine wpAny_For (thn (hi pins s σ H _ I h) fun v s1 h1=>thn h1 fun itv s2 h2=>?_) hs
 obtain ⟨it,fp,tn,J,H2,e,I2,T,st2,f2,W,⟨m0,w0⟩,turn⟩:=h2
 subst e
 have stat:∀ {H':Hp},(∀ b∈fp,H' b=none)->∀ b∈fp,FpOk X pins H' b:=fun hn b hb=>⟨hn b hb,(f2 b hb).2⟩
 refine codeAny_forLoop_any (fun n s'=>∃ i σ' H',Inv X pins σ' H' s'/\tn i s'.heap/\(∀ b∈fp,H' b=none)/\W i n σ' H') ?_ m0 ⟨0,σ,H2,I2,st2,fun b hb=>(f2 b hb).1,w0⟩
 rintro n s3 ⟨i,σ3,H3,I3,st3,fr3,w3⟩
 rcases turn i n σ3 H3 w3 with ⟨stop,qn⟩|⟨go,N,hN,step⟩
 ·refine wpAny_passesOwn hp (thn (T.done X rfl rfl rfl hc i pins s3 σ3 H3 X.xe I3 (stat fr3) st3 stop) fun r s4 ⟨hr,I4⟩=>?_)
  subst hr
  exact wpAny_execs_nil ⟨σ3,H3,I4,qn⟩
 ·refine wpAny_passesOwn hp (thn (T.item X rfl rfl rfl hc i pins s3 σ3 H3 X.xe I3 (stat fr3) st3 go) fun r s4 ⟨u,hr,h4⟩=>?_)
  subst hr
  refine wpAny_passesOwn hp (thn h4 fun _ s5 ⟨x,H5,I5,r5,y5,st5,fr5⟩=>?_)
  have I5':=I5.pinned (stat fr5) (T.obj _ _ st5)
  refine wpAny_passesOwn hp (thn (hg _ s5 σ3 H5 x u _ I5' r5 (step x H5 y5)) fun _ s6 ⟨σ6,H6,I6,q6⟩=>?_)
  refine wpAny_passesOwn hp (thn (hb _ s6 σ6 H6 _ I6 q6) fun f s7 q7=>?_)
  have again:∀ {σ7:St} {H7:Hp},Inv X (pins++pinsAt fp s5.heap) σ7 H7 s7->N σ7 H7->∃ m,m<n/\∃ i σ' H',Inv X pins σ' H' s7/\tn i s7.heap/\(∀ b∈fp,H' b=none)/\W i m σ' H':=fun {σ7 H7} I7 n7=>by
   obtain ⟨m',hm,w7⟩:=hN σ7 H7 n7
   refine ⟨m',hm,i+1,σ7,H7,I7.unpinned,T.keep _ _ _ st5 fun b hb o e=>(I7.pin (b,o) (List.mem_append_right _ (List.mem_append_right _ (mem_pinsAt hb e)))).1,fun b hb=>?_,w7⟩
   obtain ⟨o,e,d⟩:=T.obj _ _ st5 b hb
   exact (I7.pin (b,o) (List.mem_append_right _ (List.mem_append_right _ (mem_pinsAt hb e)))).2.1
  cases f with
  |next=>obtain ⟨σ7,H7,I7,n7⟩:=q7;exact again I7 n7
  |cont=>obtain ⟨σ7,H7,I7,n7⟩:=q7;exact again I7 n7
  |brk=>obtain ⟨σ7,H7,I7,q7⟩:=q7;exact ⟨σ7,H7,I7.unpinned,q7⟩
  |ret v=>obtain ⟨x7,σ7,H7,I7,r7,q7⟩:=q7;exact ⟨x7,σ7,H7,I7.unpinned,r7,q7⟩
end
theorem for_list {K:PySem.W.Frag} {a:Addr} {xs:List V} {g:TG} {tb:TS} {D:Ends} {σ:St} {H:Hp} (Pv:Nat->St->Hp->Prop) (h0:Pv 0 σ H) (hl:∀ i σ H,i≤xs.length->Pv i σ H->SqL K H a xs)
 (hs:∀ i x σ H,xs[i]?=some x->Pv i σ H->g x σ H fun σ2 H2=>tb { D with nx:=Pv (i+1),ct:=Pv (i+1),bk:=D.nx } σ2 H2) (hd:∀ σ H,Pv xs.length σ H->D.nx σ H) :
 ∃ W:Nat->Nat->St->Hp->Prop,(∃ m,W 0 m σ H)/\∀ i m σ H,W i m σ H->
   ((Itl K a).stop i H/\D.nx σ H)∨((Itl K a).go i H/\∃ N:St->Hp->Prop,(∀ σ' H',N σ' H'->∃ m',m'<m/\W (i+1) m' σ' H')/\∀ x H',(Itl K a).yld i H x H'->g x σ H' fun σ2 H2=>tb { D with nx:=N,ct:=N,bk:=D.nx } σ2 H2):=by
 refine ⟨fun i m σ H=>m=xs.length-i/\i≤xs.length/\Pv i σ H,⟨xs.length,by simp,Nat.zero_le _,h0⟩,?_⟩
 rintro i m σ H ⟨rfl,hi,p⟩
 have q:=hl i σ H hi p
 by_cases hlt:i<xs.length
 ·refine .inr ⟨⟨xs,xs[i],q,by simp [hlt]⟩,Pv (i+1),fun σ' H' p'=>⟨xs.length-(i+1),by omega,rfl,hlt,p'⟩,fun x H' y=>?_⟩
  obtain ⟨e,y⟩:=y
  subst e
  exact hs i x σ _ (y xs q) p
 ·have e:i=xs.length:=by omega
  subst e
  exact .inl ⟨⟨xs,q,Nat.le_refl _⟩,hd σ H p⟩
theorem for_range {lo:Int} {n:Nat} {g:TG} {tb:TS} {D:Ends} {σ:St} {H:Hp} (Pv:Nat->St->Hp->Prop) (h0:Pv 0 σ H)
 (hs:∀ i σ H,i<n->Pv i σ H->g (.int (lo+i)) σ H fun σ2 H2=>tb { D with nx:=Pv (i+1),ct:=Pv (i+1),bk:=D.nx } σ2 H2) (hd:∀ σ H,Pv n σ H->D.nx σ H) :
 ∃ W:Nat->Nat->St->Hp->Prop,(∃ m,W 0 m σ H)/\∀ i m σ H,W i m σ H->
   ((Itr lo n).stop i H/\D.nx σ H)∨((Itr lo n).go i H/\∃ N:St->Hp->Prop,(∀ σ' H',N σ' H'->∃ m',m'<m/\W (i+1) m' σ' H')/\∀ x H',(Itr lo n).yld i H x H'->g x σ H' fun σ2 H2=>tb { D with nx:=N,ct:=N,bk:=D.nx } σ2 H2):=by
 refine ⟨fun i m σ H=>m=n-i/\i≤n/\Pv i σ H,⟨n,by simp,Nat.zero_le _,h0⟩,?_⟩
 rintro i m σ H ⟨rfl,hi,p⟩
 by_cases hlt:i<n
 ·refine .inr ⟨hlt,Pv (i+1),fun σ' H' p'=>⟨n-(i+1),by omega,rfl,hlt,p'⟩,fun x H' y=>?_⟩
  obtain ⟨e,y⟩:=y
  subst e y
  exact hs i σ _ hlt p
 ·have e:i=n:=by omega
  subst e
  exact .inl ⟨Nat.le_refl _,hd σ H p⟩
abbrev R2:=V->V->Hp->VK->Prop
def OpR (X:Cx) (f:Value->Value->Sem Value) (r:R2):Prop:=
 ∀ (pins:List (Addr×Obj)) (s:Shared) (σ:St) (H:Hp) (x y:V) (v u:Value) (Q:VK),Inv X pins σ H s->RelV x v->RelV y u->r x y H Q->
   wpAny (model X.prog X.w) X.A (f v u) (EP X pins σ Q) X.xe s
def UnR (X:Cx) (f:Value->Sem Value) (r:V->Hp->VK->Prop):Prop:=
 ∀ (pins:List (Addr×Obj)) (s:Shared) (σ:St) (H:Hp) (x:V) (v:Value) (Q:VK),Inv X pins σ H s->RelV x v->r x H Q->
   wpAny (model X.prog X.w) X.A (f v) (EP X pins σ Q) X.xe s
def CallR (X:Cx) (f:Value) (r:List V->Hp->VK->Prop):Prop:=
 ∀ (pins:List (Addr×Obj)) (s:Shared) (σ:St) (H:Hp) (xs:List V) (us:List Value) (Q:VK),Inv X pins σ H s->Vals xs us->r xs H Q->
   wpAny (model X.prog X.w) X.A (call f us) (EP X pins σ Q) X.xe s
def tOp (r:R2) (ta tb:TE):TE:=fun σ H Q=>ta σ H fun x H1=>tb σ H1 fun y H2=>r x y H2 Q
def tUn (r:V->Hp->VK->Prop) (ta:TE):TE:=fun σ H Q=>ta σ H fun x H1=>r x H1 Q
def rI (C:Int->Int->Prop) (g:Int->Int->V):R2:=fun x y H Q=>∃ i j,x=.int i/\y=.int j/\C i j/\Q (g i j) H
def rI0 (g:Int->Int->V):R2:=fun x y H Q=>∃ i j,x=.int i/\y=.int j/\Q (g i j) H
def rU (g:Int->V):V->Hp->VK->Prop:=fun x H Q=>∃ i,x=.int i/\Q (g i) H
section
variable {X:Cx} {a b c:Expr} {ta tb tc:TE} {pos:Pos}
theorem binT (ha:PE X a ta) (hb:PE X b tb) {pins:List (Addr×Obj)} {s:Shared} {σ:St} {H:Hp} {R:V->V->Hp->Prop} (I:Inv X pins σ H s)
 (h:ta σ H fun x H1=>tb σ H1 fun y H2=>R x y H2) {Q:Value->Shared->Prop} {f:Value->Value->Sem Value}
 (hf:∀ v u s2 x y H2,Inv X pins σ H2 s2->RelV x v->RelV y u->R x y H2->wpAny (model X.prog X.w) X.A (f v u) Q X.xe s2) :
 wpAny (model X.prog X.w) X.A (eval a X.env) (fun v s₁=>wpAny (model X.prog X.w) X.A (eval b X.env) (fun u s₂=>wpAny (model X.prog X.w) X.A (f v u) Q X.xe s₂) X.xe s₁) X.xe s:=by
 refine thn (ha pins s σ H _ I h) fun v s1 ⟨x,H1,I1,r1,q1⟩=>?_
 refine thn (hb pins s1 σ H1 _ I1 q1) fun u s2 ⟨y,H2,I2,r2,q2⟩=>?_
 exact hf v u s2 x y H2 I2 r1 r2 q2
theorem pe_op {op:Operator} {r:R2} (ho:OpR X (binaryOp op) r) (ha:PE X a ta) (hb:PE X b tb):PE X (.BinOp a op b pos) (tOp r ta tb):=by
 intro pins s σ H Q I h
 exact wpAny_BinOp (binT ha hb I h fun v u s2 x y H2 I2 rx ry q=>ho pins s2 σ H2 x y v u Q I2 rx ry q)
theorem pe_un {op:UnaryOp} {r:V->Hp->VK->Prop} (ho:UnR X (unaryOp op) r) (ha:PE X a ta):PE X (.UnaryOp op a pos) (tUn r ta):=by
 intro pins s σ H Q I h
 exact UnaryOp_ (thn (ha pins s σ H _ I h) fun v s1 ⟨x,H1,I1,r1,q1⟩=>ho pins s1 σ H1 x v Q I1 r1 q1)
theorem opI {f:Value->Value->Sem Value} {C:Int->Int->Prop} {g:Int->Int->Int}
 (rule:∀ (i j:Int) (t u:Tok) (s:Shared) (Q:Value->Shared->Prop) (E:Value->Shared->Prop),C i j->Q (.int (g i j) s.toks) { s with toks:=s.toks+1 }->wpAny (model X.prog X.w) X.A (f (.int i t) (.int j u)) Q E s) :
 OpR X f (rI C fun i j=>.int (g i j)):=by
 intro pins s σ H x y v u Q I rx ry h
 obtain ⟨i,j,rfl,rfl,hc,q⟩:=h
 obtain ⟨t,rfl⟩:=rx
 obtain ⟨t',rfl⟩:=ry
 exact rule i j t t' s _ _ hc ⟨.int (g i j),H,I.tok _,⟨_,rfl⟩,q⟩
theorem opI0 {f:Value->Value->Sem Value} {g:Int->Int->Int}
 (rule:∀ (i j:Int) (t u:Tok) (s:Shared) (Q:Value->Shared->Prop) (E:Value->Shared->Prop),Q (.int (g i j) s.toks) { s with toks:=s.toks+1 }->wpAny (model X.prog X.w) X.A (f (.int i t) (.int j u)) Q E s) :
 OpR X f (rI0 fun i j=>.int (g i j)):=by
 intro pins s σ H x y v u Q I rx ry h
 obtain ⟨i,j,rfl,rfl,q⟩:=h
 obtain ⟨t,rfl⟩:=rx
 obtain ⟨t',rfl⟩:=ry
 exact rule i j t t' s _ _ ⟨.int (g i j),H,I.tok _,⟨_,rfl⟩,q⟩
theorem opB0 {f:Value->Value->Sem Value} {g:Int->Int->Bool}
 (rule:∀ (i j:Int) (t u:Tok) (s:Shared) (Q:Value->Shared->Prop) (E:Value->Shared->Prop),Q (.bool (g i j)) s->wpAny (model X.prog X.w) X.A (f (.int i t) (.int j u)) Q E s) :
 OpR X f (rI0 fun i j=>.bl (g i j)):=by
 intro pins s σ H x y v u Q I rx ry h
 obtain ⟨i,j,rfl,rfl,q⟩:=h
 obtain ⟨t,rfl⟩:=rx
 obtain ⟨t',rfl⟩:=ry
 exact rule i j t t' s _ _ ⟨.bl (g i j),H,I,rfl,q⟩
def CDiv (i j:Int):Prop:=0<j/\j<1073741824
def CPow (i j:Int):Prop:=0≤j/\j≤1000000/\i.natAbs<2 ^ 64
def CMul (i j:Int):Prop:=(-(2 ^ 64)<i/\i<2 ^ 64)∨(-(2 ^ 64)<j/\j<2 ^ 64)
theorem CMul.ok {i j:Int} (h:CMul i j):IntMulOk i j:=by
 rcases h with ⟨h1,h2⟩|⟨h1,h2⟩
 ·exact .of_left (intBits_le_64 h1 h2)
 ·exact .of_right (intBits_le_64 h1 h2)
theorem op_add:OpR X (binaryOp .Add) (rI0 fun i j=>.int (i+j)):=opI0 fun _ _ _ _ _ _ _ q=>add_int q
theorem op_sub:OpR X (binaryOp .Sub) (rI0 fun i j=>.int (i-j)):=opI0 fun _ _ _ _ _ _ _ q=>sub_int q
theorem op_mul:OpR X (binaryOp .Mult) (rI CMul fun i j=>.int (i*j)):=opI fun _ _ _ _ _ _ _ hc q=>mul_int q hc.ok
theorem op_fdiv:OpR X (binaryOp .FloorDiv) (rI CDiv fun i j=>.int (i / j)):=opI fun i j _ _ _ _ _ hc q=>by
 have h1:(0:Int)<j:=hc.1
 have h2:j<1073741824:=hc.2
 exact floordiv_int (by omega) (by rw [Int.fdiv_eq_ediv_of_nonneg i (by omega)];exact q) (.inl (PyProof.noPylong_small (by omega)))
theorem op_mod:OpR X (binaryOp .Mod) (rI (fun _ j=>0<j) fun i j=>.int (i % j)):=opI fun i j _ _ _ _ _ hc q=>by
 have h1:(0:Int)<j:=hc
 exact mod_int' (by omega) (by rw [Int.fmod_eq_emod_of_nonneg i (by omega)];exact q)
theorem op_pow:OpR X (binaryOp .Pow) (rI CPow fun i j=>.int (i ^ j.toNat)):=opI fun _ _ _ _ _ _ _ hc q=>pow_int_small hc.1 hc.2.1 hc.2.2 q
theorem unI {f:Value->Sem Value} {g:Int->Int}
 (rule:∀ (i:Int) (t:Tok) (s:Shared) (Q:Value->Shared->Prop) (E:Value->Shared->Prop),Q (.int (g i) s.toks) { s with toks:=s.toks+1 }->wpAny (model X.prog X.w) X.A (f (.int i t)) Q E s) :
 UnR X f (rU fun i=>.int (g i)):=by
 intro pins s σ H x v Q I rx h
 obtain ⟨i,rfl,q⟩:=h
 obtain ⟨t,rfl⟩:=rx
 exact rule i t s _ _ ⟨.int (g i),H,I.tok _,⟨_,rfl⟩,q⟩
theorem un_neg:UnR X (unaryOp .USub) (rU fun i=>.int (-i)):=unI fun _ _ _ _ _ q=>neg_int q
end
def scal:V->V->Bool
 |.non,.non=>true|.non,.int _=>true|.int _,.non=>true|.non,.bl _=>true|.bl _,.non=>true|.non,.str _=>true|.str _,.non=>true
 |.int _,.int _=>true|.bl _,.bl _=>true|.str _,.str _=>true|.byt _,.byt _=>true
 |.int _,.str _=>true|.str _,.int _=>true|.bl _,.str _=>true|.str _,.bl _=>true
 |_,_=>false
def rEq:R2:=fun x y H Q=>scal x y=true/\Q (.bl (decide (x=y))) H
def rNe:R2:=fun x y H Q=>scal x y=true/\Q (.bl (!decide (x=y))) H
theorem dec_int {i j:Int}:decide (V.int i=V.int j)=(i == j):=by
 rw [Bool.eq_iff_iff]
 simp
theorem dec_bl {i j:Bool}:decide (V.bl i=V.bl j)=(i == j):=by
 rw [Bool.eq_iff_iff]
 simp
theorem dec_str {i j:Str}:decide (V.str i=V.str j)=(i == j):=by
 rw [Bool.eq_iff_iff]
 simp
theorem dec_byt {i j:Array UInt8}:decide (V.byt i=V.byt j)=(i.toList == j.toList):=by
 rw [Bool.eq_iff_iff]
 cases i
 cases j
 simp
section
variable {X:Cx} {a b c:Expr} {ta tb tc:TE} {pos:Pos}
theorem fin_bl {pins:List (Addr×Obj)} {σ:St} {H:Hp} {s:Shared} {Q:VK} {k k':Bool} (I:Inv X pins σ H s) (q:Q (.bl k) H) (e:k=k'):EP X pins σ Q (.bool k') s:=by
 subst e
 exact ⟨.bl k,H,I,rfl,q⟩
theorem op_eq:OpR X (compareOp .Eq) rEq:=by
 intro pins s σ H x y v u Q I rx ry h
 obtain ⟨hs,q⟩:=h
 cases x with
 | non=>
   cases rx
   cases y with
   |non=>cases ry;exact PySem.EqNone.eq_none_none (fin_bl I q (by simp))
   |bl j=>cases ry;exact PySem.EqNone.eq_none_bool (fin_bl I q (by simp))
   |int j=>obtain ⟨t',rfl⟩:=ry;exact PySem.EqNone.eq_none_int (fin_bl I q (by simp))
   |str j=>obtain ⟨t',rfl⟩:=ry;exact PySem.EqNone.eq_none_str (fin_bl I q (by simp))
   |_=>exact absurd (show false=true from hs) Bool.false_ne_true
 | bl i=>
   cases rx
   cases y with
   |non=>cases ry;exact PySem.EqNone.eq_bool_none (fin_bl I q (by simp))
   |bl j=>cases ry;exact eq_bool (fin_bl I q dec_bl)
   |str j=>obtain ⟨t',rfl⟩:=ry;exact PySem.EqMixed.eq_bool_str (fin_bl I q (by simp))
   |_=>exact absurd (show false=true from hs) Bool.false_ne_true
 | int i=>
   obtain ⟨t,rfl⟩:=rx
   cases y with
   |non=>cases ry;exact PySem.EqNone.eq_int_none (fin_bl I q (by simp))
   |int j=>obtain ⟨t',rfl⟩:=ry;exact eq_int (fin_bl I q dec_int)
   |str j=>obtain ⟨t',rfl⟩:=ry;exact PySem.EqMixed.eq_int_str (fin_bl I q (by simp))
   |_=>exact absurd (show false=true from hs) Bool.false_ne_true
 | str i=>
   obtain ⟨t,rfl⟩:=rx
   cases y with
   |non=>cases ry;exact PySem.EqNone.eq_str_none (fin_bl I q (by simp))
   |bl j=>cases ry;exact PySem.EqMixed.eq_str_bool (fin_bl I q (by simp))
   |int j=>obtain ⟨t',rfl⟩:=ry;exact PySem.EqMixed.eq_str_int (fin_bl I q (by simp))
   |str j=>obtain ⟨t',rfl⟩:=ry;exact eq_str (fin_bl I q dec_str)
   |_=>exact absurd (show false=true from hs) Bool.false_ne_true
 | byt i=>
   obtain ⟨t,rfl⟩:=rx
   cases y with
   |byt j=>obtain ⟨t',rfl⟩:=ry;exact PySem.W.eq_bytes (fin_bl I q dec_byt)
   |_=>exact absurd (show false=true from hs) Bool.false_ne_true
 |_=>cases y <;> exact absurd (show false=true from hs) Bool.false_ne_true
theorem op_ne:OpR X (compareOp .NotEq) rNe:=by
 intro pins s σ H x y v u Q I rx ry h
 obtain ⟨hs,q⟩:=h
 cases x with
 | non=>
   cases rx
   cases y with
   |non=>cases ry;exact PySem.EqNone.ne_none_none (fin_bl I q (by simp))
   |bl j=>cases ry;exact PySem.EqNone.ne_none_bool (fin_bl I q (by simp))
   |int j=>obtain ⟨t',rfl⟩:=ry;exact PySem.EqNone.ne_none_int (fin_bl I q (by simp))
   |str j=>obtain ⟨t',rfl⟩:=ry;exact PySem.EqNone.ne_none_str (fin_bl I q (by simp))
   |_=>exact absurd (show false=true from hs) Bool.false_ne_true
 | bl i=>
   cases rx
   cases y with
   |non=>cases ry;exact PySem.EqNone.ne_bool_none (fin_bl I q (by simp))
   |bl j=>cases ry;exact ne_bool (fin_bl I q (congrArg not dec_bl))
   |str j=>obtain ⟨t',rfl⟩:=ry;exact PySem.EqMixed.ne_bool_str (fin_bl I q (by simp))
   |_=>exact absurd (show false=true from hs) Bool.false_ne_true
 | int i=>
   obtain ⟨t,rfl⟩:=rx
   cases y with
   |non=>cases ry;exact PySem.EqNone.ne_int_none (fin_bl I q (by simp))
   |int j=>obtain ⟨t',rfl⟩:=ry;exact ne_int (fin_bl I q (congrArg not dec_int))
   |str j=>obtain ⟨t',rfl⟩:=ry;exact PySem.EqMixed.ne_int_str (fin_bl I q (by simp))
   |_=>exact absurd (show false=true from hs) Bool.false_ne_true
 | str i=>
   obtain ⟨t,rfl⟩:=rx
   cases y with
   |non=>cases ry;exact PySem.EqNone.ne_str_none (fin_bl I q (by simp))
   |bl j=>cases ry;exact PySem.EqMixed.ne_str_bool (fin_bl I q (by simp))
   |int j=>obtain ⟨t',rfl⟩:=ry;exact PySem.EqMixed.ne_str_int (fin_bl I q (by simp))
   |str j=>obtain ⟨t',rfl⟩:=ry;exact ne_str (fin_bl I q (congrArg not dec_str))
   |_=>exact absurd (show false=true from hs) Bool.false_ne_true
 | byt i=>
   obtain ⟨t,rfl⟩:=rx
   cases y with
   |byt j=>obtain ⟨t',rfl⟩:=ry;exact PySem.W.ne_bytes (fin_bl I q (congrArg not dec_byt))
   |_=>exact absurd (show false=true from hs) Bool.false_ne_true
 |_=>cases y <;> exact absurd (show false=true from hs) Bool.false_ne_true
theorem op_lt:OpR X (compareOp .Lt) (rI0 fun i j=>.bl (decide (i<j))):=opB0 fun _ _ _ _ _ _ _ q=>lt_int q
theorem op_le:OpR X (compareOp .LtE) (rI0 fun i j=>.bl (decide (i≤j))):=opB0 fun _ _ _ _ _ _ _ q=>le_int q
theorem op_gt:OpR X (compareOp .Gt) (rI0 fun i j=>.bl (decide (j<i))):=opB0 fun _ _ _ _ _ _ _ q=>gt_int q
theorem op_ge:OpR X (compareOp .GtE) (rI0 fun i j=>.bl (decide (j≤i))):=opB0 fun _ _ _ _ _ _ _ q=>ge_int q
theorem op_in_str:OpR X (compareOp .In) (fun x y H Q=>∃ i j,x=.str i/\y=.str j/\Q (.bl (!(Builtin.Str.occurrences j i 0 j.length 1).isEmpty)) H):=by
 intro pins s σ H x y v u Q I rx ry h
 obtain ⟨i,j,rfl,rfl,q⟩:=h
 obtain ⟨t,rfl⟩:=rx
 obtain ⟨t',rfl⟩:=ry
 exact in_str (fin_bl I q rfl)
theorem op_isN:OpR X (compareOp .Is) (fun x y H Q=>y=.non/\Q (.bl (decide (x=.non))) H):=by
 intro pins s σ H x y v u Q I rx ry h
 obtain ⟨rfl,q⟩:=h
 cases ry
 refine is_none_gen (fin_bl I q ?_)
 cases x <;> first
  |(cases rx;rfl)
  |(obtain ⟨t,rfl⟩:=rx;rfl)
theorem nomark (b:Expr) {op:CmpOp} (h:op≠.In:=by decide) (h2:op≠.NotIn:=by decide):behindInMarks op b=false:=by
 have e1:(op == CmpOp.In)=false:=by cases op <;> first|rfl|exact absurd rfl h
 have e2:(op == CmpOp.NotIn)=false:=by cases op <;> first|rfl|exact absurd rfl h2
 cases b <;> simp [behindInMarks,e1,e2]
theorem pe_cmpR {op:CmpOp} {r:R2} (ho:OpR X (compareOp op) r) (ha:PE X a ta) (hb:PE X b tb) (hm:behindInMarks op b=false):PE X (.Compare a [op] [b] pos) (tOp r ta tb):=by
 intro pins s σ H Q I h
 exact wpAny_Compare1 (binT ha hb I h fun v u s2 x y H2 I2 rx ry q=>ho pins s2 σ H2 x y v u Q I2 rx ry q) hm
def tTest (t:TE):TT:=fun σ H Q=>t σ H fun x H'=>∃ k,x=.bl k/\Q k H'
theorem pt_cmpR {op:CmpOp} {r:R2} (ho:OpR X (compareOp op) r) (ha:PE X a ta) (hb:PE X b tb) (hm:behindInMarks op b=false):PT X (.Compare a [op] [b] pos) (tTest (tOp r ta tb)):=by
 intro pins s σ H Q I h
 refine wpAny_isTrue_Compare1 (thn (ha pins s σ H _ I h) fun v s1 ⟨x,H1,I1,r1,q1⟩=>thn (hb pins s1 σ H1 _ I1 q1) fun u s2 ⟨y,H2,I2,r2,q2⟩=>
  thn (ho pins s2 σ H2 x y v u _ I2 r1 r2 q2) fun c s3 ⟨z,H3,I3,r3,k,e,q3⟩=>?_) hm
 subst e
 cases r3
 exact wpAny_truthy_bool ⟨H3,I3,q3⟩
def tChain (r r':R2) (ta tb tc:TE):TE:=fun σ H Q=>ta σ H fun x H1=>tb σ H1 fun y H2=>r x y H2 fun z H3=>∃ k,z=.bl k/\
 (if k=true then tc σ H3 fun w' H4=>r' y w' H4 Q else Q (.bl false) H3)
theorem pe_chain {op op':CmpOp} {r r':R2} (ho:OpR X (compareOp op) r) (ho':OpR X (compareOp op') r') (ha:PE X a ta) (hb:PE X b tb) (hc:PE X c tc)
 (hm:lastMarks [op,op'] [b,c]=false:=by with_unfolding_all rfl):PE X (.Compare a [op,op'] [b,c] pos) (tChain r r' ta tb tc):=by
 intro pins s σ H Q I h
 refine Compare_chain (thn (ha pins s σ H _ I h) fun v s1 ⟨x,H1,I1,r1,q1⟩=>chain_link (thn (hb pins s1 σ H1 _ I1 q1) fun u s2 ⟨y,H2,I2,r2,q2⟩=>
  thn (ho pins s2 σ H2 x y v u _ I2 r1 r2 q2) fun d s3 ⟨z,H3,I3,r3,k,e,q3⟩=>?_)) hm
 subst e
 cases r3
 refine wpAny_truthy_bool ?_
 cases k with
 |false=>exact ite_ff ⟨.bl false,H3,I3,rfl,q3⟩
 |true=>exact ite_tt (chain_last (thn (hc pins s3 σ H3 _ I3 q3) fun w' s4 ⟨z',H4,I4,r4,q4⟩=>ho' pins s4 σ H4 y z' u w' Q I4 r2 r4 q4))
theorem pt_chain {op op':CmpOp} {r r':R2} (ho:OpR X (compareOp op) r) (ho':OpR X (compareOp op') r') (ha:PE X a ta) (hb:PE X b tb) (hc:PE X c tc)
 (hm:lastMarks [op,op'] [b,c]=false:=by with_unfolding_all rfl):PT X (.Compare a [op,op'] [b,c] pos) (tTest (tChain r r' ta tb tc)):=by
 intro pins s σ H Q I h
 refine isTrue_chain (thn (ha pins s σ H _ I h) fun v s1 ⟨x,H1,I1,r1,q1⟩=>test_link (thn (hb pins s1 σ H1 _ I1 q1) fun u s2 ⟨y,H2,I2,r2,q2⟩=>
  thn (ho pins s2 σ H2 x y v u _ I2 r1 r2 q2) fun d s3 ⟨z,H3,I3,r3,k,e,q3⟩=>?_)) hm
 subst e
 cases r3
 refine wpAny_truthy_bool ?_
 cases k with
 | false=>
   obtain ⟨k',e',q'⟩:=q3
   cases e'
   exact ite_ff ⟨H3,I3,q'⟩
 | true=>
   refine ite_tt (test_last (thn (hc pins s3 σ H3 _ I3 q3) fun w' s4 ⟨z',H4,I4,r4,q4⟩=>thn (ho' pins s4 σ H4 y z' u w' _ I4 r2 r4 q4) fun d' s5 ⟨z2,H5,I5,r5,k2,e2,q5⟩=>?_))
   subst e2
   cases r5
   exact wpAny_truthy_bool ⟨H5,I5,q5⟩
theorem line63:(sizeLine:Nat)<2 ^ 63:=by rw [sizeLine_eq];decide
theorem op_add_str:OpR X (binaryOp .Add) (fun x y H Q=>∃ i j,x=.str i/\y=.str j/\i.length+j.length≤sizeLine/\Q (.str (i++j)) H):=by
 intro pins s σ H x y v u Q I rx ry h
 obtain ⟨i,j,rfl,rfl,hz,q⟩:=h
 obtain ⟨t,rfl⟩:=rx
 obtain ⟨t',rfl⟩:=ry
 exact add_str (fun t' tk=>⟨.str (i++j),H,I.tok _,⟨_,rfl⟩,q⟩) hz
theorem vals1 {x:V} {us:List Value} (r:Vals [x] us):∃ u,us=[u]/\RelV x u:=by
 cases r with
 |cons r1 r2=>cases r2;exact ⟨_,rfl,r1⟩
theorem call_str_int:CallR X (.type "str") (fun xs H Q=>∃ i,xs=[.int i]/\i.natAbs.log2<1920/\Q (.str (toString i)) H):=by
 intro pins s σ H xs us Q I r h
 obtain ⟨i,rfl,hz,q⟩:=h
 obtain ⟨u,rfl,t,rfl⟩:=vals1 r
 exact PySem.P.str_of_int hz ⟨.str _,H,I.tok _,⟨_,rfl⟩,q⟩
end
structure ObjM (h:Heap) (x dx C:Addr) (mA:Str->Option Value):Prop where
 obj:h.get? x=some (PySem.W.instObj C dx)
 ns:h.Ns1 dx mA
 ne:dx≠x
theorem lookIn_ns {h:Heap} {dx:Addr} {mA:Str->Option Value} (n:h.Ns1 dx mA):∃ od,h.get? dx=some od/\∀ name,PySem.W.lookIn name od=some (mA name):=by
 obtain ⟨o,es,ep,ho,hd,hk,_,hm⟩:=n
 refine ⟨o,ho,fun name=>?_⟩
 have e:=hm name
 unfold nsFind findBy at e
 rw [← Array.find?_toList] at e
 unfold PySem.W.lookIn
 rw [hd]
 dsimp only
 split
 ·rename_i y q
  rw [q] at e
  exact congrArg some e
 ·rename_i q
  rw [q] at e
  have a:es.toList.any (·.refKey)=false:=by
   rw [List.any_eq_false]
   intro y hy
   obtain ⟨z,t,hkey⟩:=hk y (Array.mem_toList_iff.mp hy)
   simp [DictEntry.refKey,hkey]
  have a':¬ es.toList.any (·.refKey)=true:=by rw [a];exact Bool.false_ne_true
  rw [if_neg a']
  exact congrArg some e
theorem ObjM.look {h:Heap} {x dx C:Addr} {mA:Str->Option Value} (I:ObjM h x dx C mA):∃ od,PySem.W.InstAt h x (PySem.W.instObj C dx) C (some od)/\∀ name,PySem.W.lookIn name od=some (mA name):=
 let ⟨od,ho,hl⟩:=lookIn_ns I.ns
 ⟨od,⟨I.obj,rfl,rfl,ho⟩,hl⟩
section
variable {prog:Program} {w:World} {A:Around} {E:Value->Shared->Prop} {s:Shared} {K:PySem.W.Frag} {x dx C f:Addr} {mA:Str->Option Value} {name:Str} {v:Value}
theorem get_map {expr:Bool} {Q:Value->Shared->Prop} (X:K.In s.heap) (I:ObjM s.heap x dx C mA) (hg:PySem.W.plainGet K C name=true) (hh:PySem.W.hasDictIn K C=true)
 (ha:PySem.W.findIn K (.ref C) name=some none) (hv:mA name=some v) (hv':PySem.W.handedIn v=true) (h:Q v { s with toks:=s.toks+1 }) :
 wpAny (model prog w) A (getAttr (.ref x) name expr) Q E s:=by
 obtain ⟨od,J,hl⟩:=I.look
 exact PySem.W.get_value X J (PySem.W.plainGet_of hg).1 (PySem.W.findObj_own hh ha rfl (by rw [hl,hv])) hv' h
theorem get_meth {pl:Sem Bool} {Q:Value×List Value->Shared->Prop} (X:K.In s.heap) (I:ObjM s.heap x dx C mA) (hg:PySem.W.plainGet K C name=true)
 (hf:PySem.W.findIn K (.ref C) name=some (some (.ref f))) (ht:PySem.W.isFn K (.ref f)=true) (hv:mA name=none) (h:Q (.ref f,[.ref x]) s) :
 wpAny (model prog w) A (getMethod (.ref x) name pl) Q E s:=by
 obtain ⟨od,J,hl⟩:=I.look
 exact PySem.W.method_fn X J (PySem.W.plainGet_of hg).1 (PySem.W.plainGet_of hg).2 hf (beq_iff_eq.mp ht) (by show (PySem.W.lookIn name od).map (·.isSome)=some false;rw [hl,hv];rfl) h
theorem set_map {ns:List Str} {Q:Unit->Shared->Prop} (X:K.In s.heap) (I:ObjM s.heap x dx C mA)
 (hs:PySem.W.findIn K (.ref C) "__setattr__" = some (some (.builtin "object.__setattr__"))) (hp:PySem.W.plainOver K C=true) (ht:PySem.W.takerIn K C name=some none) (hh:PySem.W.hasDictIn K C=true)
 (hw:PySem.Within mA ns) (hsz:ns.length≤sizeLine)
 (h:∀ h',ObjM h' x dx C (fun y=>if y=name then some v else mA y)->Heap.SameBut dx s.heap h'->Q () { s with heap:=h',toks:=s.toks+2 }) :
 wpAny (model prog w) A (setAttr (.ref x) name v) Q E s:=by
 obtain ⟨od,J,hl⟩:=I.look
 refine PySem.W.set_plain X J hs (PySem.W.osa_open (s:={ s with toks:=s.toks+1 }) (r:=none) X J hp ht fun b=>?_)
 obtain ⟨cd,hc,hd'⟩:=PySem.W.any_some hh
 have hx:s.heap.get? x=some ⟨.ref C,some dx,.plain,#[]⟩:=I.obj
 refine wpAny_bind (wpAny_pure (wpAny_bind (wpAny_bind (wpAny_loadPart hx (wpAny_bind (PySem.W.Looks.here (s:={ s with toks:=s.toks+1 }) (PySem.W.looks_clsIn X hc) ?_))))))
 rw [hd']
 refine wpAny_pure (a:=some dx) (wpAny_bind (wpAny_pure (wpAny_bind ?_)))
 refine wpAny_nsSet1 (s:={ s with toks:=s.toks+1 }) I.ns fun h' hn2 hs2=>?_
 obtain ⟨oD,esD,epD,hoD,hdD,hcD⟩:=hn2.count (PySem.Within.cons name v hw)
 refine wpAny_bind (wpAny_lookBehind hoD (by rw [hdD];exact pastItsLine_dict (Nat.le_trans hcD (by rw [List.length_cons];omega))) ?_)
 exact wpAny_pure (h _ ⟨(hs2.2 _ (Ne.symm I.ne)).trans I.obj,hn2,I.ne⟩ hs2)
theorem make_map {R:Result->Shared->Prop} {vs:List Value} {kw:List (Str×Value)} (X:K.In s.heap) (hm:PySem.W.makesIn K C=true)
 (hi:PySem.W.findIn K (.ref C) "__init__" = some (some (.ref f))) (hf:PySem.W.typeIn K (.ref f)=some (.type "function"))
 (h:codeAny (model prog w) (A.under (.builtin "type.__call__" ⟨.ref C::vs,kw⟩)) (.call (.ref f) ⟨.ref (s.heap.objs.size+1)::vs,kw⟩) (PySem.W.InitBack (s.heap.objs.size+1) R)
  { s with heap:=(s.heap.push PySem.W.emptyDict).push (PySem.W.instObj C s.heap.objs.size) }) :
 codeAny (model prog w) A (.call (.ref C) ⟨vs,kw⟩) R s:=by
 obtain ⟨hh,g,d,t,os⟩:=s
 exact PySem.W.make_core (PySem.W.makes_of X hm) (PySem.W.looks_findIn X hi) (fun self=>PySem.W.bind_fn X self hf) (.inl rfl) h
end
def putF (f:Str) (v:V):List (Str×V)->List (Str×V)
 |[]=>[(f,v)]
 |(g,x)::r=>if g=f then (g,v)::r else (g,x)::putF f v r
theorem lookup_putF (f g:Str) (v:V):∀ fs:List (Str×V),(putF f v fs).lookup g=if g=f then some v else fs.lookup g
 | []=>by
   show List.lookup g [(f,v)]=_
   by_cases h:g=f
   ·have hb:(g == f)=true:=beq_iff_eq.mpr h
    simp only [List.lookup,hb,if_pos h]
   ·have hb:(g == f)=false:=beq_eq_false_iff_ne.mpr h
    simp only [List.lookup,hb,if_neg h]
 | (k,x)::r=>by
   have ih:=lookup_putF f g v r
   rw [show putF f v ((k,x)::r)=(if k=f then (k,v)::r else (k,x)::putF f v r) from rfl]
   by_cases hk:k=f
   ·rw [if_pos hk]
    by_cases h:g=k
    ·have hb:(g == k)=true:=beq_iff_eq.mpr h
     simp only [List.lookup,hb,if_pos (h.trans hk)]
    ·have hb:(g == k)=false:=beq_eq_false_iff_ne.mpr h
     simp only [List.lookup,hb,if_neg (fun e:g=f=>h (e.trans hk.symm))]
   ·rw [if_neg hk]
    by_cases h:g=k
    ·have hb:(g == k)=true:=beq_iff_eq.mpr h
     simp only [List.lookup,hb,if_neg (fun e:g=f=>hk (h.symm.trans e))]
    ·have hb:(g == k)=false:=beq_eq_false_iff_ne.mpr h
     simp only [List.lookup,hb]
     exact ih
theorem keys_putF (f:Str) (v:V):∀ fs:List (Str×V),f∈(putF f v fs).map (·.1)/\∀ g,g∈fs.map (·.1)->g∈(putF f v fs).map (·.1)
 |[]=>⟨by simp [putF],fun g h=>by simp at h⟩
 | (k,x)::r=>by
   obtain ⟨i1,i2⟩:=keys_putF f v r
   rw [show putF f v ((k,x)::r)=(if k=f then (k,v)::r else (k,x)::putF f v r) from rfl]
   by_cases hk:k=f
   ·rw [if_pos hk]
    subst hk
    exact ⟨by simp,fun g h=>by simpa using h⟩
   ·rw [if_neg hk]
    refine ⟨?_,fun g h=>?_⟩
    ·rw [List.map_cons]
     exact List.mem_cons_of_mem _ i1
    ·rw [List.map_cons] at h ⊢
     rcases List.mem_cons.mp h with e|e
     ·exact List.mem_cons.mpr (.inl e)
     ·exact List.mem_cons_of_mem _ (i2 g e)
theorem length_putF (f:Str) (v:V):∀ fs:List (Str×V),(putF f v fs).length≤fs.length+1
 |[]=>by simp [putF]
 | (k,x)::r=>by
   have ih:=length_putF f v r
   rw [show putF f v ((k,x)::r)=(if k=f then (k,v)::r else (k,x)::putF f v r) from rfl]
   by_cases hk:k=f
   ·rw [if_pos hk,List.length_cons,List.length_cons];omega
   ·rw [if_neg hk,List.length_cons,List.length_cons];omega
theorem RelO.some_of {v:V} {o:Option Value} (r:RelO (some v) o):∃ u,o=some u/\RelV v u:=by
 cases o with
 |none=>exact (show False from r).elim
 |some u=>exact ⟨u,rfl,r⟩
theorem RelO.none_of {o:Option Value} (r:RelO none o):o=none:=by
 cases o with
 |none=>rfl
 |some u=>exact (show False from r).elim
theorem handed_of {v:V} {u:Value} (r:RelV v u):PySem.W.handedIn u=true:=by
 cases v with
 |non=>cases (show u=Value.none from r);rfl
 |bl b=>cases (show u=Value.bool b from r);rfl
 |int i=>obtain ⟨t,e⟩:=(show ∃ t,u=Value.int i t from r);cases e;rfl
 |str x=>obtain ⟨t,e⟩:=(show ∃ t,u=Value.str x t from r);cases e;rfl
 |byt b=>obtain ⟨t,e⟩:=(show ∃ t,u=Value.bytes b t from r);cases e;rfl
 |flt b=>obtain ⟨t,e⟩:=(show ∃ t,u=Value.float b t from r);cases e;rfl
 |ref a=>cases (show u=Value.ref a from r);rfl
 |ty n=>cases (show u=Value.type n from r);rfl
section
variable {P:Program} {w:World} {H H':Hp} {h h':Heap} {a C dx:Addr} {fs fs':List (Str×V)}
theorem ins_get (hok:HOk P w H h) (e:H a=some (.ins C dx fs)):∃ mA,ObjM h a dx C mA/\(∀ f,RelO (fs.lookup f) (mA f))/\PySem.Within mA (fs.map (·.1))/\fs.length≤1000/\H dx=some (.own a):=by
 obtain ⟨d,z,ne,ob,mA,n,r,q⟩:=(show ObjOk P w H h a (.ins C dx fs) from hok a _ e)
 exact ⟨mA,⟨ob,n,ne⟩,r,q,z,d⟩
end
structure Cls (K:PySem.W.Frag) (C:Addr):Prop where
 pg:PySem.W.plainGet K C Str.empty=true
 hd:PySem.W.hasDictIn K C=true
 po:PySem.W.plainOver K C=true
 sa:PySem.W.findIn K (.ref C) "__setattr__" = some (some (.builtin "object.__setattr__"))
theorem Cls.get {K:PySem.W.Frag} {C:Addr} (c:Cls K C) (f:Str):PySem.W.plainGet K C f=true:=c.pg
def NoAttr (K:PySem.W.Frag) (C:Addr) (f:Str):Prop:=PySem.W.findIn K (.ref C) f=some none
theorem NoAttr.taker {K:PySem.W.Frag} {C:Addr} {f:Str} (n:NoAttr K C f):PySem.W.takerIn K C f=some none:=by
 unfold PySem.W.takerIn
 rw [show PySem.W.findIn K (.ref C) f=some none from n]
 rfl
structure Meth (K:PySem.W.Frag) (C:Addr) (m:Str) (f:Addr):Prop where
 at_:PySem.W.findIn K (.ref C) m=some (some (.ref f))
 fn:PySem.W.isFn K (.ref f)=true
 kp:PySem.W.keepIn K (.ref f)=true
section
variable {X:Cx} {pins:List (Addr×Obj)} {σ:St} {H:Hp} {s:Shared} {a C dx:Addr} {fs:List (Str×V)} {f:Str} {v:V} {A:Around} {E:Value->Shared->Prop}
theorem getattr_ok {b:Bool} {Q:Value->Shared->Prop} (I:Inv X pins σ H s) (e:H a=some (.ins C dx fs)) (c:Cls X.K C) (n:NoAttr X.K C f) (l:fs.lookup f=some v)
 (h:∀ u s',Inv X pins σ H s'->RelV v u->Q u s'):wpAny (model X.prog X.w) A (getAttr (.ref a) f b) Q E s:=by
 obtain ⟨mA,O,r,_,_,_⟩:=ins_get I.hok e
 obtain ⟨u,hu,ru⟩:=RelO.some_of (v:=v) (o:=mA f) (by rw [← l];exact r f)
 exact get_map I.kIn O (c.get f) c.hd n hu (handed_of ru) (h u _ (I.tok _) ru)
theorem getmeth_ok {m:Str} {g:Addr} {pl:Sem Bool} {Q:Value×List Value->Shared->Prop} (I:Inv X pins σ H s) (e:H a=some (.ins C dx fs)) (c:Cls X.K C) (k:Meth X.K C m g) (l:fs.lookup m=none)
 (h:Q (.ref g,[.ref a]) s):wpAny (model X.prog X.w) A (getMethod (.ref a) m pl) Q E s:=by
 obtain ⟨mA,O,r,_,_,_⟩:=ins_get I.hok e
 have hn:mA m=none:=RelO.none_of (by rw [← l];exact r m)
 exact get_meth I.kIn O (c.get m) k.at_ k.fn hn h
theorem setattr_ok {y:V} {u:Value} {Q:Unit->Shared->Prop} (I:Inv X pins σ H s) (e:H a=some (.ins C dx fs)) (c:Cls X.K C) (n:NoAttr X.K C f) (hl:fs.length<1000) (ry:RelV y u)
 (h:∀ s',Inv X pins σ (upd H a (.ins C dx (putF f y fs))) s'->Q () s'):wpAny (model X.prog X.w) A (setAttr (.ref a) f u) Q E s:=by
 obtain ⟨mA,O,r,wi,_,ho⟩:=ins_get I.hok e
 have hz:(fs.map (·.1)).length≤sizeLine:=by rw [List.length_map,sizeLine_eq];omega
 refine set_map I.kIn O c.sa c.po n.taker c.hd wi hz fun h' O' sb=>h _ ?_
 have hd:∃ o,h'.get? dx=some o:=let ⟨o,_,_,e',_⟩:=O'.ns;⟨o,e'⟩
 refine I.write (x:=a) (e:=dx) (by rw [e];exact True.intro) (.inr ho) (fun b q hb z=>(sb.2 b hb).trans z) hd ?_
 refine ⟨by rw [upd_ne O.ne];exact ho,?_,O.ne,O'.obj,_,O'.ns,fun g=>?_,fun g hg=>?_⟩
 ·have:=length_putF f y fs;omega
 ·show RelO ((putF f y fs).lookup g) (if g=f then some u else mA g)
  rw [lookup_putF]
  by_cases q:g=f
  ·rw [if_pos q,if_pos q];exact ry
  ·rw [if_neg q,if_neg q];exact r g
 ·by_cases q:g=f
  ·rw [q];exact (keys_putF f y fs).1
  ·refine (keys_putF f y fs).2 g (wi g fun z=>hg ?_)
   show (if g=f then some u else mA g)=none
   rw [if_neg q];exact z
theorem Inv.made (I:Inv X pins σ H s):Inv X pins σ (upd (upd H s.heap.objs.size (.own (s.heap.objs.size+1))) (s.heap.objs.size+1) (.ins C s.heap.objs.size []))
 { s with heap:=(s.heap.push PySem.W.emptyDict).push (PySem.W.instObj C s.heap.objs.size) }:=by
 have e1:(s.heap.push PySem.W.emptyDict).get? s.heap.objs.size=some PySem.W.emptyDict:=Heap.get?_push_size s.heap rfl
 have e2:((s.heap.push PySem.W.emptyDict).push (PySem.W.instObj C s.heap.objs.size)).get? (s.heap.objs.size+1)=some (PySem.W.instObj C s.heap.objs.size):=by
  have:=Heap.get?_push_size (s.heap.push PySem.W.emptyDict) (o:=PySem.W.instObj C s.heap.objs.size) rfl
  rwa [Heap.size_push] at this
 have e3:(s.heap.push PySem.W.emptyDict).Ns s.heap.objs.size (fun _=>none):=⟨PySem.W.emptyDict,#[],_,e1,rfl,(fun e he=>absurd he (by simp)),fun _=>rfl⟩
 have I1:=I.laid (a:=s.heap.objs.size) (o:=.own (s.heap.objs.size+1)) (h':=s.heap.push PySem.W.emptyDict) (t':=s.toks) (fun b u q=>Heap.get?_push_of_some _ q) (Nat.le_refl _) ⟨_,e1⟩
 refine I1.laid (a:=s.heap.objs.size+1) (o:=.ins C s.heap.objs.size []) (t':=s.toks) (fun b u q=>Heap.get?_push_of_some _ q) (Nat.le_of_eq (Heap.size_push _ _)) ?_
 have ne:s.heap.objs.size≠s.heap.objs.size+1:=Nat.ne_of_lt (Nat.lt_succ_self _)
 refine ⟨by rw [upd_ne ne,upd_same],Nat.zero_le _,ne,e2,fun _=>none,(Heap.Ns1.of_empty e3).at fun o q=>Heap.get?_push_of_some _ q,fun _=>True.intro,fun y hy=>absurd rfl hy⟩
theorem attr_of {prog:Program} {w:World} {env:Env} {e:Expr} {f:Str} {pos:Pos} {s:Shared} {Q:Value->Shared->Prop} (hb:attributeBase e f env (eval e env)=eval e env)
 (h:wpAny (model prog w) A (eval e env) (fun o s₁=>wpAny (model prog w) A (getAttr o f true) Q E s₁) E s):wpAny (model prog w) A (eval (.Attribute e f pos) env) Q E s:=
 Attribute_any_ h (by rw [arm_eval_Attribute,hb])
end
def tFld (K:PySem.W.Frag) (ta:TE) (f:Str):TE:=fun σ H Q=>ta σ H fun x H1=>∃ a C dx fs v,x=.ref a/\H1 a=some (.ins C dx fs)/\Cls K C/\NoAttr K C f/\fs.lookup f=some v/\Q v H1
def sFld (K:PySem.W.Frag) (ta tv:TE) (f:Str):TS:=fun D σ H=>tv σ H fun y H1=>ta σ H1 fun x H2=>∃ a C dx fs,x=.ref a/\H2 a=some (.ins C dx fs)/\Cls K C/\NoAttr K C f/\fs.length<1000/\
 D.nx σ (upd H2 a (.ins C dx (putF f y fs)))
section
variable {X:Cx} {o e value:Expr} {f:Str} {pos pos' tpos:Pos} {ta tv:TE}
theorem pe_fld (he:PE X e ta) (hb:attributeBase e f X.env (eval e X.env)=eval e X.env):PE X (.Attribute e f pos) (tFld X.K ta f):=by
 intro pins s σ H Q I h
 refine attr_of hb (thn (he pins s σ H _ I h) fun u s1 ⟨x,H1,I1,rx,a,C,dx,fs,v,ex,ea,c,n,l,q⟩=>?_)
 subst ex
 obtain rfl:u=Value.ref a:=rx
 exact getattr_ok I1 ea c n l fun u' s2 I2 ru=>⟨v,H1,I2,ru,q⟩
theorem ps_fld (ha:PE X o ta) (hv:PE X value tv) (hs:swapsWith value (some (.Attribute o f pos')) pos.line X.env=pure false):PS X (.Assign [.Attribute o f pos'] value pos) (sFld X.K ta tv f):=by
 intro pins s σ H D I h
 refine plainObj_wpAny_Assign_Attribute (thn (hv pins s σ H _ I h) fun u s1 ⟨y,H1,I1,ry,q⟩=>thn (ha pins s1 σ H1 _ I1 q) fun ov s2 ⟨x,H2,I2,rx,a,C,dx,fs,ex,ea,c,n,l,q2⟩=>?_) hs
 subst ex
 obtain rfl:ov=Value.ref a:=rx
 exact setattr_ok I2 ea c n l ry fun s3 I3=>⟨σ,_,I3,q2⟩
theorem methcall_of {pl:Sem Bool} {m:Str} {apos:Pos} {args:List Expr} {pins:List (Addr×Obj)} {s:Shared} {σ:St} {H:Hp} {Q:Value->Shared->Prop} {te:TE} (he:PE X e te) (I:Inv X pins σ H s)
 (h:te σ H fun x H1=>∃ a C dx fs g,x=.ref a/\H1 a=some (.ins C dx fs)/\Cls X.K C/\Meth X.K C m g/\fs.lookup m=none/\
  ∀ s1,Inv X pins σ H1 s1->wpAny (model X.prog X.w) X.A (callWith pos (.ref g) [.ref a] (backTo pos (starEach args X.env)) (backToKw pos (keywordEach [] X.env))) Q X.xe s1)
 (ht:eval (.Call (.Attribute e m apos) args [] pos) X.env=(do
  let ov ← eval e X.env
  standAt apos.atName
  let (f,first) ← holding [ov] (getMethod ov m pl)
  callWith pos f first (backTo pos (starEach args X.env)) (backToKw pos (keywordEach [] X.env)))) :
 wpAny (model X.prog X.w) X.A (eval (.Call (.Attribute e m apos) args [] pos) X.env) Q X.xe s:=by
 refine PySem.W.methodCall_KW (pl:=pl) (thn (he pins s σ H _ I h) fun u s1 ⟨x,H1,I1,rx,a,C,dx,fs,g,ex,ea,c,k,l,q⟩=>?_) ht
 subst ex
 obtain rfl:u=Value.ref a:=rx
 exact getmeth_ok I1 ea c k l (q s1 I1)
end
section
variable {X:Cx} {pins:List (Addr×Obj)} {σ:St} {H:Hp} {s:Shared} {A:Around} {E:Value->Shared->Prop} {Q:Value->Shared->Prop} {c:Value} {b:Bool}
end
structure Room (k:Nat) (A:Around):Prop where
 hd:A.handled=none
 dp:A.depth+3*k+5<recursionLimit
 un:A.units+16*k+200<cLine
 gd:A.guards=some []
theorem Room.mono {j k:Nat} {A:Around} (r:Room k A) (h:j≤k):Room j A:=⟨r.hd,by have:=r.dp;omega,by have:=r.un;omega,r.gd⟩
theorem Room.deeper {k:Nat} {A:Around} (r:Room (k+1) A) (env:Env):Room k (A.deeper env):=
 ⟨r.hd,by have:=r.dp;show A.depth+1+3*k+5<_;omega,by have:=r.un;show A.units+3+16*k+200<_;omega,r.gd⟩
theorem Room.in1 {k:Nat} {A:Around} (r:Room (k+1) A):Room k A.in1:=
 ⟨r.hd,by have:=r.dp;show A.depth+3*k+5<_;omega,by have:=r.un;show A.units+1+16*k+200<_;omega,r.gd⟩
theorem make_depth {A:Around} {C:Addr} {us:List Value} {kw:List (Str×Value)}:(A.under (.builtin "type.__call__" ⟨.ref C::us,kw⟩)).depth=A.depth+1:=by
 first|rfl|simp [Around.under,Code.weight,Code.isCreation,Code.isGuard,Code.isCaller,Code.frames,Code.isFrame,guardIds]
theorem make_units {A:Around} {C:Addr} {us:List Value} {kw:List (Str×Value)}:(A.under (.builtin "type.__call__" ⟨.ref C::us,kw⟩)).units=A.units+1:=by
 first|rfl|simp [Around.under,Code.cUnits,Code.frames,Code.isFrame]
theorem Room.make {k:Nat} {A:Around} (r:Room (k+1) A) (C:Addr) (us:List Value) (kw:List (Str×Value)):Room k (A.under (.builtin "type.__call__" ⟨.ref C::us,kw⟩)):=
 ⟨r.hd,by have:=r.dp;rw [make_depth];omega,by have:=r.un;rw [make_units];omega,by have:=r.gd;first|exact this|(simpa [Around.under] using this)⟩
theorem Room.depth {k:Nat} {A:Around} (r:Room k A):A.depth<recursionLimit:=by have:=r.dp;omega
theorem Room.units {k:Nat} {A:Around} (r:Room k A):A.units+64<cLine:=by have:=r.un;omega
def tNil:TA:=fun _ H Q=>Q [] H
def tCons (ta:TE) (tr:TA):TA:=fun σ H Q=>ta σ H fun x H1=>tr σ H1 fun xs H2=>Q (x::xs) H2
section
variable {X:Cx} {e:Expr} {es:List Expr} {te:TE} {t:TA} {pos:Pos}
theorem pa_nil:PA X [] tNil:=fun _ _ _ _ H Q I h=>Calls.spliced_nil ⟨[],H,I,.nil,h⟩
theorem pa_cons (ha:PE X e te) (hr:PA X es t) (hs:starEach (e::es) X.env=(false,eval e X.env)::starEach es X.env:=by rfl):PA X (e::es) (tCons te t):=by
 intro pos pins s σ H Q I h
 rw [hs]
 show wpAny _ _ (spliced ((false,eval e X.env)::backTo pos (starEach es X.env))) _ _ s
 refine Calls.spliced_cons (thn (ha pins s σ H _ I h) fun u s1 ⟨x,H1,I1,r1,q1⟩=>?_)
 exact thn (hr pos pins s1 σ H1 _ I1 q1) fun us s2 ⟨xs,H2,I2,r2,q2⟩=>⟨x::xs,H2,I2,.cons r1 r2,q2⟩
def tTup (t:TA):TE:=fun σ H Q=>t σ H fun xs H1=>xs.length≤sizeLine/\∀ p,H1 p=none->Q (.ref p) (upd H1 p (.tup xs))
def tLst (t:TA):TE:=fun σ H Q=>t σ H fun xs H1=>xs.length≤sizeLine/\∀ p,H1 p=none->Q (.ref p) (upd H1 p (.lst xs))
theorem pe_tup {x1} (h:PA X es t):PE X (.Tuple es x1 pos) (tTup t):=by
 intro pins s σ H Q I hq
 refine wpAny_Tuple_spliced (thn (h pos pins s σ H _ I hq) fun us s1 ⟨xs,H1,I1,r,z,q⟩=>⟨by rw [← r.length];exact z,?_⟩)
 have hf:H1 s1.heap.objs.size=none:=I1.hok.fresh (Nat.le_refl _)
 refine ⟨.ref s1.heap.objs.size,upd H1 s1.heap.objs.size (.tup xs),I1.laid (t':=s1.toks) (fun b u e=>Heap.get?_push_of_some _ e) (Nat.le_refl _) ?_,rfl,q _ hf⟩
 exact ⟨z,us,r,⟨_,Heap.get?_push_size _ rfl,rfl,_,rfl⟩⟩
theorem pe_lst (h:PA X es t):PE X (.List es pos) (tLst t):=by
 intro pins s σ H Q I hq
 refine wpAny_List_spliced (thn (h pos pins s σ H _ I hq) fun us s1 ⟨xs,H1,I1,r,z,q⟩=>⟨by rw [← r.length];exact z,?_⟩)
 have hf:H1 s1.heap.objs.size=none:=I1.hok.fresh (Nat.le_refl _)
 refine ⟨.ref s1.heap.objs.size,upd H1 s1.heap.objs.size (.lst xs),I1.laid (t':=s1.toks) (fun b u e=>Heap.get?_push_of_some _ e) (Nat.le_refl _) ?_,rfl,q _ hf⟩
 exact ⟨z,us,0,r,Heap.get?_push_size _ rfl⟩
end
abbrev Sp:=List V->Hp->VK->XK->Prop
abbrev CXT:=List Env->Hp->Shared->XK->Value->Shared->Prop
structure Env0 (P:Program) (w:World) (K:PySem.W.Frag) (mg:Str->Option Value) (base:Heap) (A:Around) (outer:List Env) (s:Shared) (H:Hp):Prop where
 frames:A.frames=some outer
 mod:Mod K mg base
 bs:∀ b o,base.get? b=some o->s.heap.get? b=some o/\H b=none
 bsz:base.objs.size≤s.heap.objs.size
 funs:s.heap.FunFrames base outer
 frf:∀ b∈frs outer,H b=none
 hok:HOk P w H s.heap
 bare:AllBare s.gens
def CE (outer:List Env) (P:Program) (w:World) (H:Hp) (s:Shared) (Q:VK) (u:Value) (s':Shared):Prop:=
 ∃ v H',s'.os=s.os/\AllBare s'.gens/\Un (frs outer) [] H H' s.heap s'.heap/\HOk P w H' s'.heap/\RelV v u/\Q v H'
def CR (CX:CXT) (outer:List Env) (P:Program) (w:World) (H:Hp) (s:Shared) (Q:VK) (E:XK) (r:Result) (s':Shared):Prop:=
 match r with
 |.ok (.ret u)=>CE outer P w H s Q u s'
 |.ok _=>False
 |.error e=>CX outer H s E e s'
structure FnOk (P:Program) (w:World) (K:PySem.W.Frag) (mg:Str->Option Value) (base:Heap) (CX:CXT) (k:Nat) (f:Addr) (fd:FuncData) (ps:List Str) (sp:Sp):Prop where
 len:∀ vs H Q E,sp vs H Q E->vs.length=ps.length
 run:∀ (A:Around) (outer:List Env) (s:Shared) (H:Hp) (args:Args) (us:List Value) (vs:List V) (Q:VK) (E:XK),Room k A->Env0 P w K mg base A outer s H->BindsTo s fd args (ps.zip us)->Vals vs us->sp vs H Q E->
  codeAny (model P w) A (.call (.ref f) args) (CR CX outer P w H s Q E) s
theorem Env0.make {P:Program} {w:World} {K:PySem.W.Frag} {mg:Str->Option Value} {base:Heap} {A:Around} {outer:List Env} {s:Shared} {H:Hp} (e:Env0 P w K mg base A outer s H) (C:Addr) (us:List Value) (kw:List (Str×Value)) :
 Env0 P w K mg base (A.under (.builtin "type.__call__" ⟨.ref C::us,kw⟩)) outer s H:=⟨by first|exact e.frames|(simpa [Around.under,Code.envs,Code.isFrame,pushEnvs] using e.frames),e.mod,e.bs,e.bsz,e.funs,e.frf,e.hok,e.bare⟩
section
variable {X:Cx} {pins:List (Addr×Obj)} {σ:St} {H:Hp} {s s':Shared}
theorem Inv.env0 (I:Inv X pins σ H s):Env0 X.prog X.w X.K X.mg X.base X.A X.stack s H:=
 ⟨I.ok.frames,I.ok.mod,I.bs,Nat.le_trans I.ok.bsz I.sz,I.stack,I.stkFree,I.hok,I.bare⟩
theorem Inv.after {Q:VK} {u:Value} (I:Inv X pins σ H s) (h:CE X.stack X.prog X.w H s Q u s'):EP X pins σ Q u s':=by
 obtain ⟨v,H',os,bare,un,hok,r,q⟩:=h
 obtain ⟨hh,g,d,t,os'⟩:=s'
 obtain rfl:os'=s.os:=os
 exact ⟨v,H',I.call (h':=hh) (g':=g) (d':=d) (t':=t) (ch:=[]) un hok bare (fun b z=>absurd z (by simp)),r,q⟩
end
def tCall (sp:Sp) (dvs:List V) (E:XK) (t:TA):TE:=fun σ H Q=>t σ H fun vs H1=>sp (vs++dvs) H1 Q E
def tMeth (C:Addr) (m:Str) (sp:Sp) (dvs:List V) (E:XK) (ta:TE) (t:TA):TE:=fun σ H Q=>ta σ H fun x H1=>∃ a dx fs,x=.ref a/\H1 a=some (.ins C dx fs)/\fs.lookup m=none/\
 t σ H1 fun vs H2=>sp (x::(vs++dvs)) H2 Q E
def Binds (K:PySem.W.Frag) (fd:FuncData) (ps:List Str) (ds:List Value):Prop:=
 ∀ (s:Shared) (us:List Value),K.In s.heap->(us++ds).length=ps.length->BindsTo s fd ⟨us,[]⟩ (ps.zip (us++ds))
theorem Binds.all {K:PySem.W.Frag} {fd:FuncData} {ps:List Str} (h:∀ us:List Value,us.length=ps.length->bindArgs fd ⟨us,[]⟩=pure (ps.zip us)):Binds K fd ps []:=fun s us _ hl=>by
 rw [List.append_nil] at hl ⊢
 exact .of_eq (h us hl)
def Passes (CX:CXT) (X:Cx) (E:XK):Prop:=∀ (pins:List (Addr×Obj)) (σ:St) (H:Hp) (s:Shared) (e:Value) (s':Shared),Inv X pins σ H s->CX X.stack H s E e s'->X.xe e s'
section
variable {X:Cx} {CX:CXT} {k:Nat} {f C:Addr} {fd:FuncData} {ps:List Str} {sp:Sp} {dvs:List V} {ds:List Value} {E:XK} {x m:Str} {p pos apos:Pos} {e o:Expr} {es:List Expr} {ta:TE} {t:TA}
theorem run_fn {pins:List (Addr×Obj)} {σ:St} {H:Hp} {s:Shared} {Q:VK} {us:List Value} {vs:List V} (F:FnOk X.prog X.w X.K X.mg X.base CX k f fd ps sp) (hr:Room k X.A) (hb:Binds X.K fd ps ds) (hd:Vals dvs ds) (hx:Passes CX X E)
 (I:Inv X pins σ H s) (r:Vals vs us) (h:sp (vs++dvs) H Q E):wpAny (model X.prog X.w) X.A (call (.ref f) us) (EP X pins σ Q) X.xe s:=by
 have r2:Vals (vs++dvs) (us++ds):=r.append hd
 have hl:(us++ds).length=ps.length:=by rw [← r2.length];exact F.len _ _ _ _ h
 refine wpAny_call (codeAny_mono (F.run X.A X.stack s H ⟨us,[]⟩ (us++ds) (vs++dvs) Q E hr I.env0 (hb s us I.kIn hl) r2 h) fun r s' hq=>?_)
 cases r with
 |error e=>exact hx pins σ H s e s' I hq
 | ok fl=>
   cases fl with
   |ret u=>exact I.after hq
   |next=>exact False.elim hq
   |brk=>exact False.elim hq
   |cont=>exact False.elim hq
theorem pe_call (F:FnOk X.prog X.w X.K X.mg X.base CX k f fd ps sp) (hr:Room k X.A) (hg:Gl X x) (hm:X.mg x=some (.ref f)) (hk:PySem.W.keepIn X.K (.ref f)=true) (hb:Binds X.K fd ps ds) (hd:Vals dvs ds) (hx:Passes CX X E)
 (ha:PA X (e::es) t) (hdb:(x == ("__debug__" : Str))=false:=by decide) (he:starEach (e::es) X.env=(false,eval e X.env)::starEach es X.env:=by rfl) (hpl:(backTo pos (starEach es X.env)).any (·.1)=false:=by rfl) :
 PE X (.Call (.Name x p) (e::es) [] pos) (tCall sp dvs E t):=by
 intro pins s σ H Q I h
 refine wpAny_Call_Name_kw (ld_glob I hg hm ?_ hdb)
 refine PySem.W.callWith_K (h₀:=X.base) I.ok.mod.kin hk (thn (ha pos pins s σ H _ I h) fun us s1 ⟨vs,H1,I1,r,q⟩=>⟨I1.kIn,?_⟩) he hpl
 exact run_fn F hr hb hd hx I1 r q
theorem pe_meth0 {pl:Sem Bool} (he:PE X o ta) (c:Cls X.K C) (hm:Meth X.K C m f) (F:FnOk X.prog X.w X.K X.mg X.base CX k f fd ps sp) (hr:Room k X.A) (hb:Binds X.K fd ps ds) (hd:Vals dvs ds) (hx:Passes CX X E)
 (ht:eval (.Call (.Attribute o m apos) [] [] pos) X.env=(do
  let ov ← eval o X.env
  standAt apos.atName
  let (f,first) ← holding [ov] (getMethod ov m pl)
  callWith pos f first (backTo pos (starEach [] X.env)) (backToKw pos (keywordEach [] X.env))):=by rfl) :
 PE X (.Call (.Attribute o m apos) [] [] pos) (tMeth C m sp dvs E ta tNil):=by
 intro pins s σ H Q I h
 refine PySem.W.methodCall_KW (pl:=pl) (thn (he pins s σ H _ I h) fun u s1 ⟨x,H1,I1,rx,a,dx,fs,ex,ea,l,q⟩=>?_) ht
 subst ex
 obtain rfl:u=Value.ref a:=rx
 refine getmeth_ok I1 ea c hm l ?_
 exact PySem.W.callWith_K0 (first:=[.ref a]) I1.kIn hm.kp (run_fn (us:=[.ref a]) (vs:=[.ref a]) F hr hb hd hx I1 (.cons rfl .nil) q)
structure Mk (K:PySem.W.Frag) (C f:Addr):Prop where
 makes:PySem.W.makesIn K C=true
 init:PySem.W.findIn K (.ref C) "__init__" = some (some (.ref f))
 fn:PySem.W.isFn K (.ref f)=true
 kp:PySem.W.keepIn K (.ref C)=true
end
def PK (X:Cx) (kws:List Keyword) (t:TA):Prop:=
 ∀ (pos:Pos) (pins:List (Addr×Obj)) (s:Shared) (σ:St) (H:Hp) (Q:List V->Hp->Prop),Inv X pins σ H s->t σ H Q->wpAny (model X.prog X.w) X.A (evalAll ((backToKw pos (keywordEach kws X.env)).map (·.2))) (AP X pins σ Q) X.xe s
section
variable {X:Cx} {CX:CXT} {k:Nat} {f C:Addr} {fd:FuncData} {ps ks:List Str} {sp:Sp} {E:XK} {x m:Str} {p pos apos kpos:Pos} {e o:Expr} {es:List Expr} {kws:List Keyword} {te ta:TE} {t tk:TA} {nm:Option Str}
theorem pk_nil:PK X [] tNil:=fun _ _ _ _ H Q I h=>wpAny_evalAll_nil ⟨[],H,I,.nil,h⟩
theorem pk_cons (ha:PE X e te) (hr:PK X kws t):PK X (⟨nm,e,kpos⟩::kws) (tCons te t):=by
 intro pos pins s σ H Q I h
 show wpAny _ _ (evalAll ((do let v ← eval e X.env;standAt pos;pure v)::(backToKw pos (keywordEach kws X.env)).map (·.2))) _ _ s
 refine wpAny_evalAll_cons (wpAny_bind (thn (ha pins s σ H _ I h) fun u s1 ⟨x,H1,I1,r1,q1⟩=>wpAny_bind (wpAny_standAt (wpAny_pure ?_))))
 exact thn (hr pos pins s1 σ H1 _ I1 q1) fun us s2 ⟨xs,H2,I2,r2,q2⟩=>⟨x::xs,H2,I2,.cons r1 r2,q2⟩
structure KBinds (K:PySem.W.Frag) (fd:FuncData) (ps ks:List Str) (g:List Value->List Value->List Value) (gV:List V->List V->List V):Prop where
 to:∀ (s:Shared) (us ws:List Value),K.In s.heap->(g us ws).length=ps.length->BindsTo s fd ⟨us,ks.zip ws⟩ (ps.zip (g us ws))
 rel:∀ {vs:List V} {us:List Value} {zs:List V} {ws:List Value},Vals vs us->Vals zs ws->Vals (gV vs zs) (g us ws)
variable {g:List Value->List Value->List Value} {gV:List V->List V->List V}
end
structure FnScope (N P:List Str) (sc:Scope):Prop where
 kind:sc.kind=.function
 co:sc.isCoroutine=false
 gen:sc.isGenerator=false
 nd:N.Nodup
 pre:N.take P.length=P
 par:∀ x∈P,sc.names.lookup x=some .local∨sc.names.lookup x=some .cell
 nofree:∀ y∈sc.names,y.2≠.free
theorem bindL_out {kindOf:Str->Option NameKind} {x:Str}:∀ {binds:List (Str×Value)} {m:Str->Option Value},(∀ v,(x,v)∉binds)->bindL kindOf binds m x=m x
 |[],_,_=>rfl
 | (n,v)::r,m,h=>by
   unfold bindL
   rw [bindL_out fun w hw=>h w (List.mem_cons_of_mem _ hw)]
   split
   ·have:x≠n:=by rintro rfl;exact h v List.mem_cons_self
    simp [this]
   ·rfl
theorem bindC_out {kindOf:Str->Option NameKind} {x:Str}:∀ {binds:List (Str×Value)} {m:Str->Option Value},(∀ v,(x,v)∉binds)->bindC kindOf binds m x=m x
 |[],_,_=>rfl
 | (n,v)::r,m,h=>by
   unfold bindC
   rw [bindC_out fun w hw=>h w (List.mem_cons_of_mem _ hw)]
   split
   ·rfl
   ·have:x≠n:=by rintro rfl;exact h v List.mem_cons_self
    simp [this]
theorem bindL_get {kindOf:Str->Option NameKind} {x:Str} {v:Value}:∀ {P:List Str} {vs:List Value} {i:Nat} {m:Str->Option Value},P.Nodup->P[i]?=some x->vs[i]?=some v->kindOf x=some .local->
 bindL kindOf (P.zip vs) m x=some v
 |[],_,_,_,_,h,_,_=>by simp at h
 |_::_,[],_,_,_,_,h,_=>by simp at h
 | p::P,w::vs,0,m,nd,h1,h2,hk=>by
   simp at h1 h2;subst h1;subst h2
   show bindL kindOf ((p,w)::P.zip vs) m p=_
   unfold bindL
   rw [bindL_out fun v hv=>(List.nodup_cons.mp nd).1 (List.of_mem_zip hv).1,if_pos hk]
   simp
 | p::P,w::vs,i+1,m,nd,h1,h2,hk=>by
   show bindL kindOf ((p,w)::P.zip vs) m x=_
   unfold bindL
   exact bindL_get (i:=i) (List.nodup_cons.mp nd).2 (by simpa using h1) (by simpa using h2) hk
theorem bindC_get {kindOf:Str->Option NameKind} {x:Str} {v:Value}:∀ {P:List Str} {vs:List Value} {i:Nat} {m:Str->Option Value},P.Nodup->P[i]?=some x->vs[i]?=some v->kindOf x≠some .local->
 bindC kindOf (P.zip vs) m x=some v
 |[],_,_,_,_,h,_,_=>by simp at h
 |_::_,[],_,_,_,_,h,_=>by simp at h
 | p::P,w::vs,0,m,nd,h1,h2,hk=>by
   simp at h1 h2;subst h1;subst h2
   show bindC kindOf ((p,w)::P.zip vs) m p=_
   unfold bindC
   rw [bindC_out fun v hv=>(List.nodup_cons.mp nd).1 (List.of_mem_zip hv).1,if_neg hk]
   simp
 | p::P,w::vs,i+1,m,nd,h1,h2,hk=>by
   show bindC kindOf ((p,w)::P.zip vs) m x=_
   unfold bindC
   exact bindC_get (i:=i) (List.nodup_cons.mp nd).2 (by simpa using h1) (by simpa using h2) hk
def start (N:List Str) (vs:List V):St:=vs.map some++List.replicate (N.length-vs.length) none
def cxOf (CX:CXT) (P:Program) (w:World) (K:PySem.W.Frag) (mg:Str->Option Value) (base:Heap) (N:List Str) (qual:Str) (scope:Scope) (f:Addr) (cd:Value) (A:Around) (outer:List Env) (s:Shared) (H:Hp) (E:XK):Cx where
 prog:=P
 w:=w
 K:=K
 mg:=mg
 base:=base
 A:=A.deeper (envOfC qual scope s.heap.objs.size f cd)
 N:=N
 s₀:=s
 H₀:=H
 env:=envOfC qual scope s.heap.objs.size f cd
 outer:=outer
 stack:=envOfC qual scope s.heap.objs.size f cd::outer
 ex:=[]
 calm:=true
 fn:=fun _=>true
 pn:=[]
 xe:=fun e s'=>wpAny (model P w) (A.deeper (envOfC qual scope s.heap.objs.size f cd)) (leaving (envOfC qual scope s.heap.objs.size f cd) e) (fun _ s''=>CX outer H s E e s'') (fun e' s''=>CX outer H s E e' s'') s'
theorem cell_has {sc:Scope} {n:Nat} {x:Str} (h:sc.names.lookup x=some .cell):∃ c,(cellsFrom n sc.names []).lookup x=some c:=by
 have q:=PySem.W.cellsFrom_some sc.names n [] (.inl h)
 exact Option.isSome_iff_exists.mp q
theorem inv_start {CX:CXT} {P:Program} {w:World} {K:PySem.W.Frag} {mg:Str->Option Value} {base:Heap} {N ps:List Str} {qual:Str} {scope:Scope} {f:Addr} {cd:Value} {A:Around} {outer:List Env} {s s1:Shared} {H:Hp} {E:XK} {us:List Value} {vs:List V}
 (S:FnScope N ps scope) (hd:A.handled=none) (e0:Env0 P w K mg base A outer s H) (hl:vs.length=ps.length) (r:Vals vs us)
 (x:InCallC s s.heap.objs.size (bindL (envOfC qual scope s.heap.objs.size f cd).kindOf (ps.zip us) fun _=>none) (cellsFrom (s.heap.objs.size+1) scope.names []) (bindC (envOfC qual scope s.heap.objs.size f cd).kindOf (ps.zip us) fun _=>none) s1) :
 Inv (cxOf CX P w K mg base N qual scope f cd A outer s H E) [] (start N vs) H s1:=by
 have hpl:ps.length≤N.length:=by have:=congrArg List.length S.pre;rw [List.length_take] at this;omega
 obtain ⟨h1,tk,rfl,hk⟩:=x.done
 have noA:∀ b:Addr,b∉(cxOf CX P w K mg base N qual scope f cd A outer s H E).ex:=fun b z=>absurd (show b∈([]:List Addr) from z) (by simp)
 refine ⟨⟨e0.mod,S.kind,rfl,rfl,Nat.le_refl _,fun y z c h1 h2=>?_,fun y hy=>?_,fun y c _ h=>?_,fun _=>hd,Around.frames_deeper e0.frames,.inr ⟨rfl,rfl⟩,fun b z=>absurd z (noA b),e0.bs,e0.bsz,fun b _ _=>noA b,fun b z=>absurd z (noA b),e0.funs,e0.frf⟩,
  rfl,e0.bare,Un.kept hk,⟨_,x.toInCall.ns,fun i y v h1 h2 h3=>?_⟩,fun y c h=>⟨_,x.cell y c h⟩,e0.hok.fresh (Nat.le_refl _),fun y c h=>?_,fun p hp=>absurd (show p∈([]:List (Addr×Obj)) from hp) (by simp),e0.hok.kept hk,?_⟩
 ·exact name_of_addr x.apart (PySem.mem_of_lookup h1) (PySem.mem_of_lookup h2)
 ·have hy:scope.names.lookup y=some .cell∨scope.names.lookup y=some .free:=hy
  rcases hy with hy|hy
  ·exact cell_has hy
  ·exact absurd rfl (S.nofree _ (PySem.mem_of_lookup hy))
 ·exact Nat.le_of_lt (x.above y c (PySem.mem_of_lookup h))
 ·have hi:i<vs.length:=by
   unfold start at h2
   by_cases hi:i<vs.length
   ·exact hi
   ·rw [List.getElem?_append_right (by simpa using hi)] at h2
    rw [List.getElem?_replicate] at h2
    split at h2 <;> cases h2
  have ha:vs[i]?=some v:=by
   unfold start at h2
   rw [List.getElem?_append_left (by simpa using hi),List.getElem?_map] at h2
   cases e:vs[i]? with
   |none=>rw [e] at h2;cases h2
   |some a=>rw [e] at h2;cases h2;rfl
  obtain ⟨u,hu,rv⟩:=r.get ha
  have hp:ps[i]?=some y:=by
   rw [← S.pre,List.getElem?_take_of_lt (by omega)];exact h1
  have ndP:ps.Nodup:=by rw [← S.pre];exact S.nd.sublist (List.take_sublist _ _)
  refine ⟨u,rv,?_⟩
  rcases S.par y (List.mem_of_getElem? hp) with k|k
  ·exact .inl ⟨k,bindL_get ndP hp hu k⟩
  ·obtain ⟨c,e⟩:=cell_has (n:=s.heap.objs.size+1) k
   refine .inr ⟨.inl k,c,e,?_⟩
   have q:=x.cell y c e
   rw [bindC_get ndP hp hu (by show scope.names.lookup y≠_;rw [k];decide)] at q
   exact q
 ·exact e0.hok.fresh (Nat.le_of_lt (x.above y c (PySem.mem_of_lookup h)))
 ·unfold start
  show _=N.length
  rw [List.length_append,List.length_map,List.length_replicate]
  omega
theorem fn_of {CX:CXT} {P:Program} {w:World} {K:PySem.W.Frag} {mg:Str->Option Value} {base:Heap} {k:Nat} {f:Addr} {name qual:Str} {params:Arguments} {body:List Stmt} {scope:Scope} {dV kV doc pm cdv ct oc:Value} {an od:Option Addr}
 {osl:Array (Option Value)} {N ps:List Str} {sp:Sp} (lk:K.lookup f=some ⟨oc,od,.func (PySem.W.fnOf name qual params body scope dV kV doc pm an cdv ct),osl⟩) (hcd:PySem.W.codeIn K cdv qual=true) (S:FnScope N ps scope)
 (len:∀ vs H Q E,sp vs H Q E->vs.length=ps.length)
 (hbody:∀ (A:Around) (outer:List Env) (s:Shared) (H:Hp) (vs:List V) (Q:VK) (E:XK),Room k (A.deeper (envOfC qual scope s.heap.objs.size f cdv))->sp vs H Q E->
  ∃ t,PSs (cxOf CX P w K mg base N qual scope f cdv A outer s H E) body t/\t { nx:=fun _ H'=>Q .non H',rt:=Q } (start N vs) H) :
 FnOk P w K mg base CX (k+1) f (PySem.W.fnOf name qual params body scope dV kV doc pm an cdv ct) ps sp:=by
 refine ⟨len,fun A outer s H args us vs Q E hr e0 hb r hsp=>?_⟩
 have hl:=len _ _ _ _ hsp
 have KX:K.In s.heap:=e0.mod.kin.keeps fun b o e=>(e0.bs b o e).1
 have lim:s.heap.NoLimit:=e0.mod.nolimit.keeps fun b o e=>(e0.bs b o e).1
 have hkind:∀ y∈ps.zip us,scope.names.lookup y.1=some .local∨(scope.names.lookup y.1=some .cell/\((cellsFrom (s.heap.objs.size+1) scope.names []).lookup y.1).isSome=true):=fun ⟨n,v⟩ hy=>by
  rcases S.par n (List.of_mem_zip hy).1 with q|q
  ·exact .inl q
  ·exact .inr ⟨q,PySem.W.cellsFrom_some _ _ _ (.inl q)⟩
 refine codeAny_call_function hr.depth (KX _ _ lk) rfl S.co S.gen rfl (PySem.W.codeRec_of KX hcd) (hb _ _ _ _ ?_)
 refine wpAny_newFunctionEnv_cells S.kind hkind fun env he s1 x=>?_
 subst he
 refine ⟨lim.keeps x.toInCall.keep,codeAny_func ?_⟩
 obtain ⟨t,ht,hq⟩:=hbody A outer s H vs Q E (hr.deeper _) hsp
 have I:Inv (cxOf CX P w K mg base N qual scope f cdv A outer s H E) [] (start N vs) H s1:=inv_start S hr.hd e0 hl r x
 refine wpAny_mono (ht [] s1 (start N vs) H _ I hq) (fun fl s' hs=>?_) fun e s' hs=>hs
 have fin:∀ {σ':St} {H':Hp} {v:V} {u:Value},Inv (cxOf CX P w K mg base N qual scope f cdv A outer s H E) [] σ' H' s'->RelV v u->Q v H'->CE outer P w H s Q u s':=
  fun {σ' H' v u} J rv q=>⟨v,H',J.os,J.bare,J.base,J.hok,rv,q⟩
 cases fl with
 | ret u=>
   obtain ⟨v,σ',H',J,rv,q⟩:=hs
   exact fin J rv q
 | next=>
   obtain ⟨σ',H',J,q⟩:=hs
   exact fin (v:=V.non) (u:=Value.none) J rfl q
 | brk=>
   obtain ⟨_,_,_,q⟩:=hs
   exact False.elim q
 | cont=>
   obtain ⟨_,_,_,q⟩:=hs
   exact False.elim q
section
variable {X:Cx} {x:Str} {p pos:Pos} {e:Expr} {es:List Expr} {t:TA} {id T:String} {r:List V->Hp->VK->Prop}
def tCB (r:List V->Hp->VK->Prop) (t:TA):TE:=fun σ H Q=>t σ H fun vs H1=>r vs H1 Q
theorem pe_callB (hc:CallR X (.builtin id) r) (hg:Gl X x) (hm:X.mg x=none) (hv:bootBuiltins x=some (.builtin id)) (ha:PA X (e::es) t) (hn:x ≠ "__name__":=by decide) (hdb:(x == ("__debug__" : Str))=false:=by decide)
 (he:starEach (e::es) X.env=(false,eval e X.env)::starEach es X.env:=by rfl) (hpl:(backTo pos (starEach es X.env)).any (·.1)=false:=by rfl):PE X (.Call (.Name x p) (e::es) [] pos) (tCB r t):=by
 intro pins s σ H Q I h
 refine wpAny_Call_Name_kw (ld_blt I hg hm hv ?_ hn hdb)
 exact PyProof.Rows.callWith_builtin1 (thn (ha pos pins s σ H _ I h) fun us s1 ⟨vs,H1,I1,r1,q1⟩=>hc pins s1 σ H1 vs us Q I1 r1 q1) he hpl
theorem pe_callTy (hc:CallR X (.type T) r) (hg:Gl X x) (hm:X.mg x=none) (hv:bootBuiltins x=some (.type T)) (ha:PA X (e::es) t) (hn:x ≠ "__name__":=by decide) (hdb:(x == ("__debug__" : Str))=false:=by decide)
 (he:starEach (e::es) X.env=(false,eval e X.env)::starEach es X.env:=by rfl) (hpl:(backTo pos (starEach es X.env)).any (·.1)=false:=by rfl):PE X (.Call (.Name x p) (e::es) [] pos) (tCB r t):=by
 intro pins s σ H Q I h
 refine wpAny_Call_Name_kw (ld_blt I hg hm hv ?_ hn hdb)
 exact PyProof.Rows.callWith_type1 (thn (ha pos pins s σ H _ I h) fun us s1 ⟨vs,H1,I1,r1,q1⟩=>hc pins s1 σ H1 vs us Q I1 r1 q1) he hpl
end
end L2
namespace HT
open PySem PyProof.Rows
section
open PySem.SeqAt
open PySem.AutoSeq1 (wpAny_loadPart')
open PySem.MeetsSeq PySem.MeetsSeq2 PySem.MeetsSeq3
end
section
variable {prog:Program} {w:World} {A:Around} {E:Value->Shared->Prop} {s:Shared}
theorem cat_tup {t b:Addr} {vs ws:List Value} {Q:Value->Shared->Prop} (ht:IsTup s.heap t vs.toArray) (hb:IsTup s.heap b ws.toArray) (hv:vs≠[])
 (h1:ws=[]->Q (.ref t) s) (h2:ws≠[]->Q (.ref s.heap.objs.size) { s with heap:=s.heap.push { cls:=.type "tuple",data:=.seq (vs++ws).toArray } })
 (hsz:vs.length+ws.length≤sizeLine):wpAny (model prog w) A (binaryOp .Add (.ref t) (.ref b)) Q E s:=by
 obtain ⟨⟨cls,dd,data,sl⟩,ho,hc,n,hd⟩:=id ht
 obtain ⟨⟨cls2,dd2,data2,sl2⟩,ho2,hc2,n2,hd2⟩:=id hb
 simp only at hc hd hc2 hd2
 subst hc hd hc2 hd2
 have e:vs.toArray++ws.toArray=(vs++ws).toArray:=by simp
 by_cases hw:ws=[]
 ·exact concat_meets ⟨_,ho,rfl⟩ ⟨_,ho2,rfl⟩ noFill_tuple_add seq_tuple_add PySem.F.slot_tuple_add PySem.F.entry_tuple_add (PySem.F.args_tuple_add_2 _ _)
   (tuple_addW1 t b vs.toArray ws.toArray n n2 dd dd2 sl sl2 (by simpa using hv) (by simp [hw])) ⟨ho,ho2,h1 hw⟩
 ·refine concat_meets ⟨_,ho,rfl⟩ ⟨_,ho2,rfl⟩ noFill_tuple_add seq_tuple_add PySem.F.slot_tuple_add PySem.F.entry_tuple_add (PySem.F.args_tuple_add_2 _ _)
   (tuple_addW2 t b vs.toArray ws.toArray n n2 dd dd2 sl sl2 (by simpa using hv) (by simpa using hw) (by rw [List.size_toArray,List.size_toArray];exact hsz)) ⟨ho,ho2,?_⟩
  rw [e]
  exact h2 hw
def sIx (n d:Nat):Option Int->Nat
 |none=>d
 |some v=>if v<0 then (v+(n:Int)).toNat else min v.toNat n
theorem sIx_none (n d:Nat):sIx n d none=d:=rfl
theorem sIx_nat (n d k:Nat):sIx n d (some (k:Int))=min k n:=by
 show (if (k:Int)<0 then ((k:Int)+(n:Int)).toNat else min (k:Int).toNat n)=min k n
 rw [if_neg (by omega),Int.toNat_natCast]
theorem sIx_le (n d:Nat) (hd:d≤n) (o:Option Int):sIx n d o≤n:=by
 cases o with
 |none=>exact hd
 | some v=>
   show (if v<0 then (v+(n:Int)).toNat else min v.toNat n)≤n
   by_cases hv:v<0
   ·rw [if_pos hv];omega
   ·rw [if_neg hv];exact Nat.min_le_right _ _
theorem clip_eq (v:Int) (n d:Nat):(if v<0 then max (v+(n:Int)) 0 else min v (n:Int))=((sIx n d (some v):Nat):Int):=by
 show (if v<0 then max (v+(n:Int)) 0 else min v (n:Int))=(((if v<0 then (v+(n:Int)).toNat else min v.toNat n):Nat):Int)
 by_cases hv:v<0
 ·simp only [if_pos hv];omega
 ·simp only [if_neg hv];omega
theorem adjust_gen (lo hi:Option Int) (n:Nat):Builtin.Slice.sliceAdjust lo hi 1 (n:Int)=(((sIx n 0 lo:Nat):Int),((sIx n n hi:Nat):Int)):=by
 have h1:¬ ((1:Int)<0):=by omega
 unfold Builtin.Slice.sliceAdjust
 simp only [h1,if_false]
 refine Prod.ext ?_ ?_
 ·cases lo with
  |none=>rfl
  |some v=>exact clip_eq v n 0
 ·cases hi with
  |none=>rfl
  |some v=>exact clip_eq v n n
theorem places_gen (i j:Nat):Builtin.Slice.slicePlaces (i:Int) (j:Int) 1=j-i:=by
 unfold Builtin.Slice.slicePlaces
 have h1:(1:Int) > 0:=by omega
 simp only [h1,if_true,Int.ediv_one]
 split <;> omega
theorem slicePart_ {v:Value} {o:Option Int} {Q:Option Int->Shared->Prop} (p:IsPart v o) (h:Q o s):wpAny (model prog w) A (Builtin.Slice.slicePartIndex v) Q E s:=by
 cases p with
 |none=>exact slicePart_none h
 |int i t=>exact slicePart_int h
theorem sliceApplied_gen {sl:Addr} {vl vu:Value} {lo hi:Option Int} {n:Nat} {Q:Int×Int×Nat->Shared->Prop} (hs:s.heap.IsSliceOf sl vl vu .none) (pl:IsPart vl lo) (pu:IsPart vu hi)
 (h:Q (((sIx n 0 lo:Nat):Int),1,sIx n n hi-sIx n 0 lo) s):wpAny (model prog w) A (Builtin.Slice.sliceApplied (.ref sl) (pure (n:Int))) Q E s:=by
 obtain ⟨os,hos,hcs,hds⟩:=id hs
 unfold Builtin.Slice.sliceApplied Builtin.Slice.sliceFields
 refine wpAny_bind (wpAny_bind (wpAny_field hos hds (x:=vl) rfl (wpAny_bind (wpAny_field hos hds (x:=vu) rfl (wpAny_bind (wpAny_field hos hds (x:=.none) rfl (wpAny_pure ?_)))))))
 refine wpAny_bind (slicePart_none ?_)
 show wpAny _ _ (if ((1:Int) == 0)=true then _ else _) _ _ s
 rw [if_neg (by decide)]
 refine wpAny_bind (slicePart_ pl (wpAny_bind (slicePart_ pu (wpAny_bind (wpAny_pure ?_)))))
 show wpAny _ _ (match Builtin.Slice.sliceAdjust lo hi 1 (n:Int) with|(lo,hi)=>pure (lo,(1:Int),Builtin.Slice.slicePlaces lo hi 1)) _ _ s
 rw [adjust_gen lo hi n]
 show wpAny _ _ (pure (((sIx n 0 lo:Nat):Int),(1:Int),Builtin.Slice.slicePlaces ((sIx n 0 lo:Nat):Int) ((sIx n n hi:Nat):Int) 1)) _ _ s
 rw [places_gen]
 exact wpAny_pure h
theorem pick_gen (xs:Array Value) (i k:Nat):((List.range k).filterMap fun (m:Nat)=>xs[((i:Int)+(m:Int)*1).toNat]?).toArray=((xs.toList.drop i).take k).toArray:=by
 have e:(fun (m:Nat)=>xs[((i:Int)+(m:Int)*1).toNat]?)=fun m=>xs[i+m]?:=by
  funext m
  have:((i:Int)+(m:Int)*1).toNat=i+m:=by omega
  rw [this]
 rw [e]
 have:=pick_run xs i k
 rw [List.filterMap_map] at this
 have e2:((fun x=>xs[x]?) ∘ fun x=>i+x)=fun m=>xs[i+m]?:=rfl
 rw [e2] at this
 rw [this]
theorem getItem_tuple_cut {t sl:Addr} {items:Array Value} {vl vu:Value} {lo hi:Option Int} {Q:Value->Shared->Prop} (ht:IsTup s.heap t items) (hs:s.heap.IsSliceOf sl vl vu .none) (pl:IsPart vl lo) (pu:IsPart vu hi)
 (hw:¬ (sIx items.size 0 lo=0/\sIx items.size items.size hi=items.size))
 (h:Q (.ref s.heap.objs.size) { s with heap:=s.heap.push { cls:=.type "tuple",data:=.seq ((items.toList.drop (sIx items.size 0 lo)).take (sIx items.size items.size hi-sIx items.size 0 lo)).toArray } })
 (hsz:items.size≤sizeLine):wpAny (model prog w) A (getItem (.ref t) (.ref sl)) Q E s:=by
 have htake:sizeOk (.seq ((items.toList.drop (sIx items.size 0 lo)).take (sIx items.size items.size hi-sIx items.size 0 lo)).toArray):=by
  show ((items.toList.drop (sIx items.size 0 lo)).take (sIx items.size items.size hi-sIx items.size 0 lo)).toArray.size≤sizeLine
  rw [List.size_toArray,List.length_take,List.length_drop,Array.length_toList]
  omega
 have hj:sIx items.size items.size hi≤items.size:=sIx_le _ _ (Nat.le_refl _) hi
 obtain ⟨os,hos,hcs,hds⟩:=id hs
 have hTs:s.TypeIs (.ref sl) "slice":=⟨os,hos,hcs⟩
 unfold getItem
 try with_reducible refine wpAny_holding ?_
 first|refine wpAny_bind (wpAny_pure ?_)|skip
 refine wpAny_bind (wpAny_sequenceKey ht.typeIs (by decide) ?_)
 refine wpAny_bind (wpAny_callSpecial?_slot (name:=Str.ofString "__getitem__") ht.typeIs PyProof.Rows.slot_tuple_getitem
  (wpAny_call_entry PyProof.Rows.slot_tuple_getitem ht.typeIs entry_tuple_getitem ?_ (args_tuple_getitem _ _)))
 show wpAny _ _ (Builtin.Tuple.tupleItemsOf (.ref t) >>= _) _ _ s
 refine wpAny_bind (tupleItemsOf_ ht ?_)
 refine wpAny_bind (wpAny_typeOf hTs ?_)
 rw [if_pos (by decide)]
 refine wpAny_bind (sliceApplied_gen hs pl pu ?_)
 have hno:¬ ((((sIx items.size 0 lo:Nat):Int) == 0 && (1:Int) == 1 && (sIx items.size items.size hi-sIx items.size 0 lo) == items.size)=true):=by
  intro q
  rw [Bool.and_eq_true,Bool.and_eq_true] at q
  have q1:((sIx items.size 0 lo:Nat):Int)=0:=eq_of_beq q.1.1
  have q2:sIx items.size items.size hi-sIx items.size 0 lo=items.size:=eq_of_beq q.2
  exact hw ⟨by omega,by omega⟩
 show wpAny _ _ (if (((sIx items.size 0 lo:Nat):Int) == 0 && (1:Int) == 1 && (sIx items.size items.size hi-sIx items.size 0 lo) == items.size)=true then _ else _) _ _ s
 rw [if_neg hno,pick_gen]
 first
  |exact wpAny_bind (m:=Builtin.Tuple.tupleExact _) (wpAny_newObj_type (wpAny_pure ⟨_,rfl,wpAny_pure h⟩) htake)
  |exact wpAny_bind (m:=Builtin.Tuple.tupleExact _) (wpAny_newObj_type (wpAny_bind (wpAny_pure (wpAny_pure ⟨_,rfl,wpAny_pure h⟩))) htake)
  |exact wpAny_bind (wpAny_bind (m:=Builtin.Tuple.tupleExact _) (wpAny_newObj_type (wpAny_pure (wpAny_pure ⟨_,rfl,wpAny_pure h⟩)) htake))
  |exact wpAny_bind (wpAny_bind (m:=Builtin.Tuple.tupleExact _) (wpAny_newObj_type (wpAny_pure ⟨_,rfl,wpAny_pure h⟩) htake))
end
end HT
namespace L2
open PySem PySem.Spec PyProof.Rows
abbrev TO:=St->Hp->(Option Int->Hp->Prop)->Prop
def PO (X:Cx) (e:Option Expr) (t:TO):Prop:=
 ∀ (pins:List (Addr×Obj)) (s:Shared) (σ:St) (H:Hp) (Q:Option Int->Hp->Prop),Inv X pins σ H s->t σ H Q->
   wpAny (model X.prog X.w) X.A (evalPart e X.env) (fun u s'=>∃ o H',Inv X pins σ H' s'/\IsPart u o/\Q o H') X.xe s
def tNoPart:TO:=fun _ H Q=>Q none H
def tPart (t:TE):TO:=fun σ H Q=>t σ H fun x H1=>∃ i,x=.int i/\Q (some i) H1
section
variable {X:Cx} {e:Expr} {te:TE} {lo hi:Option Expr} {tl th:TO} {pos p2:Pos}
theorem po_none:PO X none tNoPart:=by
 intro pins s σ H Q I h
 rw [evalPart_none]
 exact wpAny_pure ⟨none,H,I,.none,h⟩
theorem po_some (h:PE X e te):PO X (some e) (tPart te):=by
 intro pins s σ H Q I hw
 rw [evalPart_some]
 refine thn (h pins s σ H _ I hw) fun u s1 ⟨x,H1,I1,r1,q1⟩=>?_
 obtain ⟨i,rfl,q⟩:=q1
 obtain ⟨t,rfl⟩:=r1
 exact ⟨some i,H1,I1,.int i t,q⟩
def SlR (X:Cx) (r:V->Option Int->Option Int->Hp->VK->Prop):Prop:=
 ∀ (pins:List (Addr×Obj)) (s:Shared) (σ:St) (H:Hp) (x:V) (v vl vu:Value) (lo hi:Option Int) (sl:Addr) (Q:VK),Inv X pins σ H s->RelV x v->s.heap.IsSliceOf sl vl vu .none->IsPart vl lo->IsPart vu hi->r x lo hi H Q->
   ∃ T id,typeLookup (.type T) "__getitem__" = pure (some (.builtin id))/\s.TypeIs v T/\wpAny (model X.prog X.w) X.A (getItem v (.ref sl)) (EP X pins σ Q) X.xe s
def tSl (r:V->Option Int->Option Int->Hp->VK->Prop) (te:TE) (tl th:TO):TE:=fun σ H Q=>te σ H fun x H1=>tl σ H1 fun l H2=>th σ H2 fun u H3=>r x l u H3 Q
theorem pe_slice {r:V->Option Int->Option Int->Hp->VK->Prop} (hr:SlR X r) (he:PE X e te) (hl:PO X lo tl) (hu:PO X hi th):PE X (.Subscript e (.Slice lo hi none p2) pos) (tSl r te tl th):=by
 intro pins s σ H Q I h
 refine Subscript_ (thn (he pins s σ H _ I h) fun v s1 ⟨x,H1,I1,r1,q1⟩=>?_)
 refine wpAny_Slice (thn (hl pins s1 σ H1 _ I1 q1) fun vl s2 ⟨l,H2,I2,pl,q2⟩=>thn (hu pins s2 σ H2 _ I2 q2) fun vu s3 ⟨u,H3,I3,pu,q3⟩=>?_)
 rw [evalPart_none]
 refine wpAny_pure ?_
 have I4:Inv X pins σ H3 { s3 with heap:=s3.heap.push { cls:=.type "slice",data:=.fields #[vl,vu,.none] } }:=I3.kept (t':=s3.toks) fun b ob q=>Heap.get?_push_of_some _ q
 obtain ⟨T,id,hT,ht,hg⟩:=hr pins { s3 with heap:=s3.heap.push { cls:=.type "slice",data:=.fields #[vl,vu,.none] } } σ H3 x v vl vu l u s3.heap.objs.size Q I4 r1 (Heap.IsSliceOf.new ..) pl pu q3
 show wpAny (model X.prog X.w) X.A (subscriptTail e (.Slice lo hi none p2) v (.ref s3.heap.objs.size)) (EP X pins σ Q) X.xe { s3 with heap:=s3.heap.push { cls:=.type "slice",data:=.fields #[vl,vu,.none] } }
 exact tail_any (ops:=[.ref s3.heap.objs.size,v]) ht hT hg (by with_unfolding_all rfl)
def cutV (xs:List V) (lo hi:Option Int):List V:=(xs.drop (HT.sIx xs.length 0 lo)).take (HT.sIx xs.length xs.length hi-HT.sIx xs.length 0 lo)
theorem cutV_length (xs:List V) (lo hi:Option Int):(cutV xs lo hi).length≤xs.length:=by
 unfold cutV
 rw [List.length_take,List.length_drop]
 omega
def rSlT (K:PySem.W.Frag):V->Option Int->Option Int->Hp->VK->Prop:=fun x lo hi H Q=>∃ a xs,x=.ref a/\SqT K H a xs/\
 ¬ (HT.sIx xs.length 0 lo=0/\HT.sIx xs.length xs.length hi=xs.length)/\∀ p,H p=none->Q (.ref p) (upd H p (.tup (cutV xs lo hi)))
theorem sl_tup:SlR X (rSlT X.K):=by
 intro pins s σ H x v vl vu lo hi sl Q I rx hs pl pu h
 obtain ⟨a,xs,rfl,hx,hw,q⟩:=h
 cases rx
 obtain ⟨its,r,ht,hz⟩:=I.tuple hx
 have hlen:its.toArray.size=xs.length:=by rw [List.size_toArray];exact r.length.symm
 refine ⟨"tuple",_,PyProof.Rows.slot_tuple_getitem.lookup,ht.typeIs,?_⟩
 refine HT.getItem_tuple_cut ht hs pl pu (by rw [hlen];exact hw) ?_ (by rw [hlen];exact hz)
 rw [hlen]
 refine ⟨.ref s.heap.objs.size,_,I.laid (t':=s.toks) (o:=.tup (cutV xs lo hi)) (fun b ob q=>Heap.get?_push_of_some _ q) (Nat.le_refl _) ?_,rfl,q _ (I.hok.fresh (Nat.le_refl _))⟩
 exact ⟨Nat.le_trans (cutV_length xs lo hi) hz,_,(r.drop (HT.sIx xs.length 0 lo)).take (HT.sIx xs.length xs.length hi-HT.sIx xs.length 0 lo),IsTup.new _ _⟩
def rCatT (K:PySem.W.Frag):R2:=fun x y H Q=>∃ a b xs ys,x=.ref a/\y=.ref b/\SqT K H a xs/\SqT K H b ys/\xs≠[]/\xs.length+ys.length≤sizeLine/\
 (ys=[]->Q (.ref a) H)/\(ys≠[]->∀ p,H p=none->Q (.ref p) (upd H p (.tup (xs++ys))))
theorem Vals.nil_iff {xs:List V} {us:List Value} (r:Vals xs us):us=[]↔xs=[]:=by
 cases r with
 |nil=>simp
 |cons _ _=>simp
theorem op_catT:OpR X (binaryOp .Add) (rCatT X.K):=by
 intro pins s σ H x y v u Q I rx ry h
 obtain ⟨a,b,xs,ys,rfl,rfl,ha,hb,hx,hz,q1,q2⟩:=h
 cases rx
 cases ry
 obtain ⟨its,r1,p1,_⟩:=I.tuple ha
 obtain ⟨its2,r2,p2,_⟩:=I.tuple hb
 refine HT.cat_tup p1 p2 (fun z=>hx (r1.nil_iff.mp z)) (fun z=>⟨.ref a,H,I,rfl,q1 (r2.nil_iff.mp z)⟩) (fun z=>?_) (by rw [← r1.length,← r2.length];exact hz)
 refine ⟨.ref s.heap.objs.size,_,I.laid (t':=s.toks) (o:=.tup (xs++ys)) (fun b ob q=>Heap.get?_push_of_some _ q) (Nat.le_refl _) ?_,rfl,q2 (fun w=>z (r2.nil_iff.mpr w)) _ (I.hok.fresh (Nat.le_refl _))⟩
 exact ⟨by rw [List.length_append];exact hz,_,r1.append r2,IsTup.new _ _⟩
end
def ixN (n:Nat) (i:Int):Option Nat:=if 0≤i then (if i<n then some i.toNat else none) else if -(n:Int)≤i then some (i+n).toNat else none
def atI {α:Type} (xs:List α) (i:Int):Option α:=(ixN xs.length i).bind fun j=>xs[j]?
theorem ixN_seq {n:Nat} {i:Int} {j:Nat} (h:ixN n i=some j):seqIndex? i n=some j/\j<n/\-(n:Int)≤i/\i<n:=by
 unfold ixN at h
 by_cases h0:0≤i
 ·rw [if_pos h0] at h
  by_cases h1:i<n
  ·rw [if_pos h1] at h
   have e:i.toNat=j:=Option.some.inj h
   exact ⟨by rw [seqIndex_of h0 h1,e],by omega,by omega,h1⟩
  ·rw [if_neg h1] at h;cases h
 ·rw [if_neg h0] at h
  by_cases h1:-(n:Int)≤i
  ·rw [if_pos h1] at h
   have e:(i+n).toNat=j:=Option.some.inj h
   exact ⟨by rw [seqIndex_neg (by omega) h1,e],by omega,h1,by omega⟩
  ·rw [if_neg h1] at h;cases h
theorem atI_get {α:Type} {xs:List α} {i:Int} {v:α} (h:atI xs i=some v):∃ j,seqIndex? i xs.length=some j/\xs[j]?=some v/\j<xs.length/\-(xs.length:Int)≤i/\i<xs.length:=by
 unfold atI at h
 cases e:ixN xs.length i with
 |none=>rw [e] at h;cases h
 | some j=>
   rw [e] at h
   obtain ⟨h1,h2,h3,h4⟩:=ixN_seq e
   exact ⟨j,h1,h,h2,h3,h4⟩
theorem atI_nat {α:Type} {xs:List α} {j:Nat} {v:α} (h:xs[j]?=some v):atI xs (j:Int)=some v:=by
 have hj:j<xs.length:=(List.getElem?_eq_some_iff.mp h).1
 have e:ixN xs.length (j:Int)=some j:=by
  unfold ixN
  rw [if_pos (by omega),if_pos (by omega)];simp
 unfold atI;rw [e];exact h
theorem atI_last {α:Type} (xs:List α) (v:α):atI (xs++[v]) (-1)=some v:=by
 have hl:(xs++[v]).length=xs.length+1:=by simp
 have e:ixN (xs++[v]).length (-1)=some xs.length:=by
  unfold ixN
  rw [hl,if_neg (by decide),if_pos (by omega)]
  congr 1
  omega
 unfold atI
 rw [e]
 show (xs++[v])[xs.length]?=some v
 simp
def PlainIx (b:Expr):Prop:=∀ o i,subscripted b false o i=operate [o,i] (getItem o i)
def IxR (X:Cx) (r:R2):Prop:=
 ∀ (value slice:Expr) (pins:List (Addr×Obj)) (s:Shared) (σ:St) (H:Hp) (x y:V) (v u:Value) (Q:VK),Inv X pins σ H s->RelV x v->RelV y u->r x y H Q->
   subscripted slice false v u=operate [v,u] (getItem v u)->wpAny (model X.prog X.w) X.A (subscriptTail value slice v u) (EP X pins σ Q) X.xe s
def MtR (X:Cx) (id:String) (r:V->List V->Hp->VK->Prop):Prop:=
 ∀ (pins:List (Addr×Obj)) (s:Shared) (σ:St) (H:Hp) (x:V) (xs:List V) (v:Value) (us:List Value) (Q:VK),Inv X pins σ H s->RelV x v->Vals xs us->r x xs H Q->
   wpAny (model X.prog X.w) X.A (call (.builtin id) (v::us)) (EP X pins σ Q) X.xe s
section
variable {X:Cx} {a b:Expr} {ta tb:TE} {pos:Pos}
theorem IxR.or {r r':R2} (h:IxR X r) (h':IxR X r'):IxR X (fun x y H Q=>r x y H Q∨r' x y H Q):=by
 intro value slice pins s σ H x y v u Q I rx ry q hs
 rcases q with q|q
 ·exact h value slice pins s σ H x y v u Q I rx ry q hs
 ·exact h' value slice pins s σ H x y v u Q I rx ry q hs
theorem pe_ix {r:R2} (hr:IxR X r) (ha:PE X a ta) (hb:PE X b tb) (hs:PlainIx b):PE X (.Subscript a b pos) (tOp r ta tb):=by
 intro pins s σ H Q I h
 exact Subscript_ (binT ha hb I h fun v u s2 x y H2 I2 rx ry q=>hr a b pins s2 σ H2 x y v u Q I2 rx ry q (hs _ _))
def rIxL (K:PySem.W.Frag):R2:=fun x y H Q=>∃ p xs i v,x=.ref p/\y=.int i/\SqL K H p xs/\atI xs i=some v/\Q v H
def rIxT (K:PySem.W.Frag):R2:=fun x y H Q=>∃ p xs i v,x=.ref p/\y=.int i/\SqT K H p xs/\atI xs i=some v/\Q v H
def rIxS:R2:=fun x y H Q=>∃ z i c,x=.str z/\y=.int i/\z.length≤sizeLine/\atI z.cps.toList i=some c/\Q (.str ⟨#[c]⟩) H
theorem ix_list:IxR X (rIxL X.K):=by
 intro value slice pins s σ H x y v u Q I rx ry h hs
 obtain ⟨p,xs,i,z,rfl,rfl,hq,he,q⟩:=h
 cases rx
 obtain ⟨t,rfl⟩:=ry
 obtain ⟨its,r,pl,hz⟩:=I.list hq
 obtain ⟨j,h1,h2,h3,h4,h5⟩:=atI_get he
 obtain ⟨w,ew,rw'⟩:=r.get h2
 have hl:=r.length
 have hn:=line63
 have fin:EP X pins σ Q w s:=⟨z,H,I,rw',q⟩
 by_cases h0:0≤i
 ·have hj:i.toNat=j:=by
   rw [seqIndex_of h0 h5] at h1
   exact Option.some.inj h1
  exact item_listR pl.isList h0 (by omega) (by rw [hj];simpa using ew) fin hs
 ·have hj:(i+(its.toArray.size:Int)).toNat=j:=by
   rw [seqIndex_neg (by omega) h4] at h1
   rw [List.size_toArray,← hl]
   exact Option.some.inj h1
  exact subscriptTail_builtinR (x:=w) pl.isList.typeIs slot_list_getitem.lookup
   (wpAny_getItem_list_neg (Q:=fun r s'=>r=w/\EP X pins σ Q r s') pl.isList (by omega) (by rw [List.size_toArray] <;> omega) (by omega) (by rw [hj];simpa using ew) ⟨rfl,fin⟩) hs
theorem ix_tup:IxR X (rIxT X.K):=by
 intro value slice pins s σ H x y v u Q I rx ry h hs
 obtain ⟨p,xs,i,z,rfl,rfl,hq,he,q⟩:=h
 cases rx
 obtain ⟨t,rfl⟩:=ry
 obtain ⟨its,r,pl,hz⟩:=I.tuple hq
 obtain ⟨j,h1,h2,h3,h4,h5⟩:=atI_get he
 obtain ⟨w,ew,rw'⟩:=r.get h2
 have hl:=r.length
 have hn:=line63
 have fin:EP X pins σ Q w s:=⟨z,H,I,rw',q⟩
 exact subscriptTail_builtinR (x:=w) pl.typeIs slot_tuple_getitem.lookup
  (getItem_tuple (j:=j) (Q:=fun r s'=>r=w/\EP X pins σ Q r s') pl (by omega) (by omega) (by rw [List.size_toArray,← hl];exact h1) (by simpa using ew) ⟨rfl,fin⟩) hs
theorem ix_str:IxR X rIxS:=by
 intro value slice pins s σ H x y v u Q I rx ry h hs
 obtain ⟨z,i,c,rfl,rfl,hz,he,q⟩:=h
 obtain ⟨t,rfl⟩:=rx
 obtain ⟨t',rfl⟩:=ry
 obtain ⟨j,h1,h2,h3,h4,h5⟩:=atI_get he
 have hl:z.cps.toList.length=z.length:=by simp [Str.length]
 rw [hl] at h1 h4 h5
 have hn:=line63
 exact tail_any (typeIs_str s z t) slot_str_getitem.lookup (getItem_str (c:=c) (by
  have e1:decide (i < -(2 ^ 63:Int))=false:=decide_eq_false (by omega)
  have e2:decide (i ≥ 2 ^ 63)=false:=decide_eq_false (by omega)
  rw [e1,e2,Bool.or_false]) (by rw [h1];simpa using h2) ⟨.str ⟨#[c]⟩,H,I.tok _,⟨_,rfl⟩,q⟩) hs
def rIx (K:PySem.W.Frag):R2:=fun x y H Q=>rIxL K x y H Q∨rIxT K x y H Q∨rIxS x y H Q
theorem ix_seq:IxR X (rIx X.K):=ix_list.or (ix_tup.or ix_str)
theorem mapSeq_set (its:List Value) (n j:Nat) (u:Value):Obj.mapSeq (·.setIfInBounds j u) { cls:=.type "list",data:=.seq its.toArray n }={ cls:=.type "list",data:=.seq (its.set j u).toArray n }:=by
 simp [Obj.mapSeq]
theorem Inv.lst {pins:List (Addr×Obj)} {σ:St} {H:Hp} {s:Shared} {p:Addr} {xs:List V} (I:Inv X pins σ H s) (h:H p=some (.lst xs)) :
 ∃ (its:List Value) (n:Nat),Vals xs its/\s.heap.get? p=some { cls:=.type "list",data:=.seq its.toArray n }/\xs.length≤sizeLine:=by
 obtain ⟨z,its,n,r,e⟩:=I.hok p _ h
 exact ⟨its,n,r,e,z⟩
theorem Inv.lstUpd {pins:List (Addr×Obj)} {σ:St} {H:Hp} {s:Shared} {p:Addr} {xs ys:List V} {its its':List Value} {n n':Nat} {f:Obj->Obj} (I:Inv X pins σ H s) (h:H p=some (.lst xs))
 (ho:s.heap.get? p=some { cls:=.type "list",data:=.seq its.toArray n }) (hf:f { cls:=.type "list",data:=.seq its.toArray n }={ cls:=.type "list",data:=.seq its'.toArray n' }) (r:Vals ys its') (hz:ys.length≤sizeLine) (t:Nat) :
 Inv X pins σ (upd H p (.lst ys)) { s with heap:=s.heap.update p f,toks:=t }:=by
 have e:(s.heap.update p f).get? p=some { cls:=.type "list",data:=.seq its'.toArray n' }:=by
  rw [Heap.get?_update_self f ho (by rw [hf] <;> rfl),hf]
 refine I.write (x:=p) (e:=p) (by rw [h];trivial) (.inl rfl) (fun b u hb q=>(Heap.get?_update_other _ _ (Ne.symm hb)).trans q) ⟨_,e⟩ ?_
 exact ⟨hz,its',n',r,e⟩
def rSetL:V->V->V->Hp->(Hp->Prop)->Prop:=fun o i v H Q=>∃ p xs k j,o=.ref p/\i=.int k/\H p=some (.lst xs)/\ixN xs.length k=some j/\Q (upd H p (.lst (xs.set j v)))
theorem set_list:PSet X rSetL:=by
 intro pins s σ H o i v ov iv u Q I ro ri rv h
 obtain ⟨p,xs,k,j,rfl,rfl,hp,hj,q⟩:=h
 cases ro
 obtain ⟨t,rfl⟩:=ri
 obtain ⟨its,n,r,ho,hz⟩:=I.lst hp
 obtain ⟨h1,h2,h3,h4⟩:=ixN_seq hj
 have hl:=r.length
 have hn:=line63
 have I':Inv X pins σ (upd H p (.lst (xs.set j v))) { s with heap:=s.heap.update p (Obj.mapSeq (·.setIfInBounds j u)) }:=
  I.lstUpd hp ho (mapSeq_set its n j u) (r.set rv j) (by rw [List.length_set];exact hz) s.toks
 by_cases h0:0≤k
 ·have hk:k.toNat=j:=by
   rw [seqIndex_of h0 h4] at h1
   exact Option.some.inj h1
  exact PySem.W.ki_setAt ho h0 (by omega) (by rw [List.size_toArray,← hl];exact h4) (by rw [hk];exact ⟨_,I',q⟩)
 ·have hk:(k+(its.toArray.size:Int)).toNat=j:=by
   rw [seqIndex_neg (by omega) h3] at h1
   rw [List.size_toArray,← hl]
   exact Option.some.inj h1
  exact PySem.W.ki_setBack ho (by omega) (by rw [List.size_toArray,← hl];exact h3) (by omega) (by rw [hk];exact ⟨_,I',q⟩)
theorem slice_bounds (lo hi:Option Int) (n:Nat):(sliceBounds lo hi none n).1=((HT.sIx n 0 lo:Nat):Int)/\(sliceBounds lo hi none n).2.1=((HT.sIx n n hi:Nat):Int)/\(sliceBounds lo hi none n).2.2=1:=by
 refine ⟨?_,?_,rfl⟩
 ·cases lo with
  |none=>simp [sliceBounds,HT.sIx]
  | some i=>
    simp only [sliceBounds,HT.sIx,Option.getD_none,show (1:Int) > 0 by decide,if_true]
    by_cases h:i<0
    ·simp only [h,if_true] <;> omega
    ·simp only [h,if_false] <;> omega
 ·cases hi with
  |none=>simp [sliceBounds,HT.sIx]
  | some i=>
    simp only [sliceBounds,HT.sIx,Option.getD_none,show (1:Int) > 0 by decide,if_true]
    by_cases h:i<0
    ·simp only [h,if_true] <;> omega
    ·simp only [h,if_false] <;> omega
theorem slicePick_cut (its:List Value) (lo hi:Option Int):slicePick its.toArray lo hi none=((its.drop (HT.sIx its.length 0 lo)).take (HT.sIx its.length its.length hi-HT.sIx its.length 0 lo)).toArray:=by
 obtain ⟨h1,h2,h3⟩:=slice_bounds lo hi its.toArray.size
 unfold slicePick
 rw [h1,h2,h3]
 simp only [sliceRange_one,pick_run,List.size_toArray] <;> rfl
def rSlL (K:PySem.W.Frag):V->Option Int->Option Int->Hp->VK->Prop:=fun x lo hi H Q=>∃ a xs,x=.ref a/\SqL K H a xs/\∀ p,H p=none->Q (.ref p) (upd H p (.lst (cutV xs lo hi)))
theorem sl_list:SlR X (rSlL X.K):=by
 intro pins s σ H x v vl vu lo hi sl Q I rx hs pl pu h
 obtain ⟨a,xs,rfl,hx,q⟩:=h
 cases rx
 obtain ⟨its,r,ht,hz⟩:=I.list hx
 have hlen:=r.length
 refine ⟨"list",_,slot_list_getitem.lookup,ht.isList.typeIs,?_⟩
 refine wpAny_getItem_list_slice ht.isList hs pl pu .none (by simp) ?_ (by rw [List.size_toArray] <;> omega)
 rw [slicePick_cut,← hlen]
 refine ⟨.ref s.heap.objs.size,_,I.laid (t':=s.toks) (o:=.lst (cutV xs lo hi)) (fun b ob q=>Heap.get?_push_of_some _ q) (Nat.le_refl _) ?_,rfl,q _ (I.hok.fresh (Nat.le_refl _))⟩
 exact ⟨Nat.le_trans (cutV_length xs lo hi) hz,_,0,(r.drop (HT.sIx xs.length 0 lo)).take (HT.sIx xs.length xs.length hi-HT.sIx xs.length 0 lo),Heap.get?_push_size _ rfl⟩
def flatV:V->Bool
 |.non=>true
 |.bl _=>true
 |.int _=>true
 |.str _=>true
 |_=>false
def eqV:V->V->Bool
 |.non,.non=>true
 |.bl a,.bl b=>a == b
 |.bl a,.int b=>(if a then 1 else 0) == b
 |.int a,.bl b=>a == (if b then 1 else 0)
 |.int a,.int b=>a == b
 |.str a,.str b=>a == b
 |_,_=>false
theorem eqAt_V {A:Around} {s:Shared} {y x:V} {u v:Value} (ry:RelV y u) (rx:RelV x v) (fy:flatV y=true) (fx:flatV x=true):SeqAt.EqAt A s u v (eqV y x):=by
 cases y with
 | non=>
   cases ry
   cases x with
   |non=>cases rx;exact SeqAt.EqAt.same _
   |bl b=>cases rx;exact SeqAt.EqAt.none_bool b
   |int b=>obtain ⟨t,rfl⟩:=rx;exact SeqAt.EqAt.none_int b t
   |str b=>obtain ⟨t,rfl⟩:=rx;exact SeqAt.EqAt.none_str b t
   |_=>exact absurd (show false=true from fx) Bool.false_ne_true
 | bl a=>
   cases ry
   cases x with
   |non=>cases rx;exact SeqAt.EqAt.bool_none a
   |bl b=>cases rx;exact SeqAt.EqAt.bool_bool a b
   |int b=>obtain ⟨t,rfl⟩:=rx;exact SeqAt.EqAt.bool_int a b t
   |str b=>obtain ⟨t,rfl⟩:=rx;exact SeqAt.EqAt.bool_str a b t
   |_=>exact absurd (show false=true from fx) Bool.false_ne_true
 | int a=>
   obtain ⟨t',rfl⟩:=ry
   cases x with
   |non=>cases rx;exact SeqAt.EqAt.int_none a t'
   |bl b=>cases rx;exact SeqAt.EqAt.int_bool a t' b
   |int b=>obtain ⟨t,rfl⟩:=rx;exact SeqAt.EqAt.int_int a t' b t
   |str b=>obtain ⟨t,rfl⟩:=rx;exact SeqAt.EqAt.int_str a t' b t
   |_=>exact absurd (show false=true from fx) Bool.false_ne_true
 | str a=>
   obtain ⟨t',rfl⟩:=ry
   cases x with
   |non=>cases rx;exact SeqAt.EqAt.str_none a t'
   |bl b=>cases rx;exact SeqAt.EqAt.str_bool a t' b
   |int b=>obtain ⟨t,rfl⟩:=rx;exact SeqAt.EqAt.str_int a t' b t
   |str b=>obtain ⟨t,rfl⟩:=rx;exact SeqAt.EqAt.str_str a t' b t
   |_=>exact absurd (show false=true from fx) Bool.false_ne_true
 |_=>exact absurd (show false=true from fy) Bool.false_ne_true
def eqU (x:V) (u:Value):Bool:=match u with
 |.none=>eqV .non x
 |.bool b=>eqV (.bl b) x
 |.int i _=>eqV (.int i) x
 |.str z _=>eqV (.str z) x
 |_=>false
theorem eqU_of {x y:V} {u:Value} (r:RelV y u) (f:flatV y=true):eqU x u=eqV y x:=by
 cases y with
 |non=>cases r;rfl
 |bl b=>cases r;rfl
 |int i=>obtain ⟨t,rfl⟩:=r;rfl
 |str z=>obtain ⟨t,rfl⟩:=r;rfl
 |_=>exact absurd (show false=true from f) Bool.false_ne_true
theorem any_eqU {x:V}:∀ {xs:List V} {us:List Value},Vals xs us->xs.all flatV=true->us.any (eqU x)=xs.any fun y=>eqV y x
 |_,_,.nil,_=>rfl
 | y::xs,u::us,.cons r t,f=>by
   rw [List.all_cons,Bool.and_eq_true] at f
   rw [List.any_cons,List.any_cons,eqU_of r f.1,any_eqU t f.2]
theorem mem_eqAt {A:Around} {s:Shared} {x:V} {v:Value} (rx:RelV x v) (fx:flatV x=true):∀ {xs:List V} {us:List Value},Vals xs us->xs.all flatV=true->∀ u∈us,SeqAt.EqAt A s u v (eqU x u)
 |_,_,.nil,_=>fun u hu=>by cases hu
 | y::xs,u::us,.cons r t,f=>fun u' hu=>by
   rw [List.all_cons,Bool.and_eq_true] at f
   rcases List.mem_cons.mp hu with rfl|hu
   ·rw [eqU_of r f.1];exact eqAt_V r rx f.1 fx
   ·exact mem_eqAt rx fx t f.2 u' hu
def inV (x:V) (xs:List V):Bool:=xs.any fun y=>eqV y x
def rIn (K:PySem.W.Frag) (neg:Bool):R2:=fun x y H Q=>∃ p xs,y=.ref p/\(SqL K H p xs∨SqT K H p xs)/\flatV x=true/\xs.all flatV=true/\Q (.bl (if neg then !inV x xs else inV x xs)) H
theorem op_in_seq:OpR X (compareOp .In) (rIn X.K false):=by
 intro pins s σ H x y v u Q I rx ry h
 obtain ⟨p,xs,rfl,hq,fx,fs,q⟩:=h
 cases ry
 rcases hq with hq|hq
 ·obtain ⟨its,r,pl,hz⟩:=I.list hq
  refine SeqAt.in_listAt (eqU x) pl.isList (fun w hw=>mem_eqAt rx fx r fs w (by simpa using hw)) ⟨.bl _,H,I,rfl,?_⟩
  rw [show its.toArray.any (eqU x)=its.any (eqU x) by simp,any_eqU r fs]
  exact q
 ·obtain ⟨its,r,pl,hz⟩:=I.tuple hq
  refine SeqAt.in_tupleAt (eqU x) pl (fun w hw=>mem_eqAt rx fx r fs w (by simpa using hw)) ⟨.bl _,H,I,rfl,?_⟩
  rw [show its.toArray.any (eqU x)=its.any (eqU x) by simp,any_eqU r fs]
  exact q
theorem op_notIn_seq:OpR X (compareOp .NotIn) (rIn X.K true):=by
 intro pins s σ H x y v u Q I rx ry h
 obtain ⟨p,xs,rfl,hq,fx,fs,q⟩:=h
 cases ry
 rcases hq with hq|hq
 ·obtain ⟨its,r,pl,hz⟩:=I.list hq
  refine SeqAt.notIn_listAt (eqU x) pl.isList (fun w hw=>mem_eqAt rx fx r fs w (by simpa using hw)) ⟨.bl _,H,I,rfl,?_⟩
  rw [show its.toArray.any (eqU x)=its.any (eqU x) by simp,any_eqU r fs]
  exact q
 ·obtain ⟨its,r,pl,hz⟩:=I.tuple hq
  refine SeqAt.notIn_tupleAt (eqU x) pl (fun w hw=>mem_eqAt rx fx r fs w (by simpa using hw)) ⟨.bl _,H,I,rfl,?_⟩
  rw [show its.toArray.any (eqU x)=its.any (eqU x) by simp,any_eqU r fs]
  exact q
theorem call_len_seq:CallR X (.builtin "len") (fun xs H Q=>∃ p ys,xs=[.ref p]/\(SqL X.K H p ys∨SqT X.K H p ys)/\Q (.int ys.length) H):=by
 intro pins s σ H xs us Q I r h
 obtain ⟨p,ys,rfl,hq,q⟩:=h
 obtain ⟨u,rfl,rx⟩:=vals1 r
 cases rx
 have hn:=line63
 rcases hq with hq|hq
 ·obtain ⟨its,r',pl,hz⟩:=I.list hq
  have hlen:=r'.length
  exact Calls.call_len_list pl.isList (by simp only [List.size_toArray] <;> omega) ⟨.int ys.length,H,I.tok _,⟨s.toks+1,by rw [List.size_toArray,hlen]⟩,q⟩
 ·obtain ⟨its,r',pl,hz⟩:=I.tuple hq
  have hlen:=r'.length
  exact len_tuple pl (by simp only [List.size_toArray] <;> omega) ⟨.int ys.length,H,I.tok _,⟨s.toks+1,by rw [List.size_toArray,hlen]⟩,q⟩
theorem call_len_str:CallR X (.builtin "len") (fun xs H Q=>∃ z,xs=[.str z]/\z.length≤sizeLine/\Q (.int z.length) H):=by
 intro pins s σ H xs us Q I r h
 obtain ⟨z,rfl,hz,q⟩:=h
 obtain ⟨u,rfl,t,rfl⟩:=vals1 r
 have hn:=line63
 exact len_str (by omega) ⟨.int z.length,H,I.tok _,⟨_,rfl⟩,q⟩
theorem call_list_of:CallR X (.type "list") (fun xs H Q=>∃ p ys,xs=[.ref p]/\(SqL X.K H p ys∨SqT X.K H p ys)/\∀ l,H l=none->Q (.ref l) (upd H l (.lst ys))):=by
 intro pins s σ H xs us Q I r h
 obtain ⟨p,ys,rfl,hq,q⟩:=h
 obtain ⟨u,rfl,rx⟩:=vals1 r
 cases rx
 have fin:∀ (its:List Value),Vals ys its->ys.length≤sizeLine->∀ (h':Heap) (c':Nat),(∀ b o',s.heap.get? b=some o'->h'.get? b=some o')->
  h'.get? s.heap.objs.size=some { cls:=.type "list",dict:=none,data:=.seq its.toArray c',slots:=#[] }->EP X pins σ Q (.ref s.heap.objs.size) { s with heap:=h' }:=fun its r' hz h' c' kp e=>
  ⟨.ref s.heap.objs.size,_,I.laid (t':=s.toks) kp (Nat.le_refl _) (show ObjOk X.prog X.w _ h' _ (.lst ys) from ⟨hz,its,c',r',e⟩),rfl,q _ (I.hok.fresh (Nat.le_refl _))⟩
 rcases hq with hq|hq
 ·obtain ⟨its,r',pl,hz⟩:=I.list hq
  have hlen:=r'.length
  obtain ⟨o,ho,hc,n,hd⟩:=pl.isList
  exact call_list_seq p (.inl rfl) ho hc hd (fun h' c' kp e=>fin its r' hz h' c' kp e) (by simp only [List.size_toArray] <;> omega)
 ·obtain ⟨its,r',pl,hz⟩:=I.tuple hq
  have hlen:=r'.length
  obtain ⟨o,ho,hc,n,hd⟩:=pl
  exact call_list_seq p (.inr rfl) ho hc hd (fun h' c' kp e=>fin its r' hz h' c' kp e) (by simp only [List.size_toArray] <;> omega)
theorem call_tuple_of:CallR X (.type "tuple") (fun xs H Q=>∃ p ys,xs=[.ref p]/\((SqL X.K H p ys/\∀ l,H l=none->Q (.ref l) (upd H l (.tup ys)))∨(SqT X.K H p ys/\Q (.ref p) H))):=by
 intro pins s σ H xs us Q I r h
 obtain ⟨p,ys,rfl,h⟩:=h
 obtain ⟨u,rfl,rx⟩:=vals1 r
 cases rx
 rcases h with ⟨hq,q⟩|⟨hq,q⟩
 ·obtain ⟨its,r',pl,hz⟩:=I.list hq
  have hlen:=r'.length
  refine call_tuple_list pl.isList (fun h' kp=>?_) (by simp only [List.size_toArray] <;> omega)
  have I1:Inv X pins σ H { s with heap:=h' }:=I.kept (t':=s.toks) kp
  have I2:Inv X pins σ (upd H h'.objs.size (.tup ys)) { s with heap:=h'.push { cls:=.type "tuple",data:=.seq its.toArray } }:=
   I1.laid (t':=s.toks) (fun b o e=>Heap.get?_push_of_some _ e) (Nat.le_refl _) (show ObjOk X.prog X.w _ _ _ (.tup ys) from ⟨hz,its,r',IsTup.new _ _⟩)
  exact ⟨.ref h'.objs.size,_,I2,rfl,q _ (I1.hok.fresh (Nat.le_refl _))⟩
 ·obtain ⟨its,r',pl,hz⟩:=I.tuple hq
  exact call_tuple_same pl ⟨.ref p,H,I,rfl,q⟩
def tyV (K:PySem.W.Frag) (T:String) (x:V) (H:Hp):Prop:=match x with
 |.str _=>T = "str"
 |.int _=>T = "int"
 |.ref p=>(T = "list"/\∃ xs,SqL K H p xs)∨(T = "tuple"/\∃ o,K.lookup p=some o/\o.cls=.type "tuple"/\o.dict=none)∨
  (T = "dict"/\((∃ kvs,H p=some (.dK kvs))∨∃ kvs,H p=some (.dT kvs)))∨(T = "set"/\∃ S n,H p=some (.set S n))
 |_=>False
theorem tyV_is {pins:List (Addr×Obj)} {σ:St} {H:Hp} {s:Shared} {T:String} {x:V} {v:Value} (I:Inv X pins σ H s) (r:RelV x v) (ty:tyV X.K T x H) :
 s.TypeIs v T/\∀ a,v=.ref a->∃ ob,s.heap.get? a=some ob/\ob.dict=none:=by
 cases x with
 | str z=>
   obtain ⟨t,rfl⟩:=r
   cases (show T = "str" from ty)
   exact ⟨typeIs_str s z t,fun _ e=>nomatch e⟩
 | int i=>
   obtain ⟨t,rfl⟩:=r
   cases (show T = "int" from ty)
   exact ⟨typeIs_int s i t,fun _ e=>nomatch e⟩
 | ref p=>
   cases r
   rcases ty with ⟨rfl,xs,hq⟩|⟨rfl,o,hk,hc,hd⟩|⟨rfl,hk⟩|⟨rfl,S,n,hk⟩
   ·obtain ⟨its,_,pl,_⟩:=I.list hq
    refine ⟨pl.isList.typeIs,fun a e=>?_⟩
    cases e
    obtain ⟨o,n,e,c,hd,_⟩:=pl
    exact ⟨o,e,hd⟩
   ·refine ⟨⟨o,I.kIn p o hk,hc⟩,fun a e=>?_⟩
    cases e
    exact ⟨o,I.kIn _ o hk,hd⟩
   ·have z:∃ o,s.heap.get? p=some o/\o.ExactDict:=by
     rcases hk with ⟨kvs,hk⟩|⟨kvs,hk⟩
     ·obtain ⟨_,_,_,_,o,_,_,e,ex,_⟩:=I.hok p _ hk
      exact ⟨o,e,ex⟩
     ·obtain ⟨_,_,_,_,o,_,_,e,ex,_⟩:=I.hok p _ hk
      exact ⟨o,e,ex⟩
    obtain ⟨o,e,ex⟩:=z
    refine ⟨⟨o,e,ex.1⟩,fun a e2=>?_⟩
    cases e2
    exact ⟨o,e,ex.2.1⟩
   ·obtain ⟨o,_,_,_,e,ex,_⟩:=I.hok p _ hk
    refine ⟨⟨o,e,ex.1⟩,fun a e2=>?_⟩
    cases e2
    exact ⟨o,e,ex.2.1⟩
 |_=>exact False.elim ty
def tBM0 (K:PySem.W.Frag) (T:String) (r:V->List V->Hp->VK->Prop) (to:TE):TE:=fun σ H Q=>to σ H fun x H1=>tyV K T x H1/\r x [] H1 Q
def tBM (K:PySem.W.Frag) (T:String) (r:V->List V->Hp->VK->Prop) (to:TE) (t:TA):TE:=fun σ H Q=>to σ H fun x H1=>tyV K T x H1/\t σ H1 fun xs H2=>r x xs H2 Q
variable {o e:Expr} {es:List Expr} {to:TE} {t:TA} {name:Str} {apos cpos:Pos} {T id:String} {r:V->List V->Hp->VK->Prop}
theorem pe_bm0 (pa:PlainAttrs T) (slot:Slot T name id) (hty:typeOf (.builtin id)=pure (.type "method_descriptor")) (hm:MtR X id r) (ho:PE X o to)
 (hbase:attributeBase o name X.env (eval o X.env)=eval o X.env:=by rfl) (hline:(apos.endLine == cpos.line)=true:=by rfl):PE X (.Call (.Attribute o name apos) [] [] cpos) (tBM0 X.K T r to):=by
 intro pins s σ H Q I h
 refine wpAny_Call_method0_late hbase hline (thn (ho pins s σ H _ I h) fun v s1 ⟨x,H1,I1,r1,ty,q1⟩=>?_)
 obtain ⟨h1,h2⟩:=tyV_is I1 r1 ty
 exact ⟨T,id,pa,slot,hty,h1,h2,Calls.callWith_builtin rfl (PySem.evalArgs_none (hm pins s1 σ H1 x [] v [] Q I1 r1 .nil q1))⟩
theorem pe_bm (pa:PlainAttrs T) (slot:Slot T name id) (hty:typeOf (.builtin id)=pure (.type "method_descriptor")) (hm:MtR X id r) (ho:PE X o to) (ha:PA X (e::es) t)
 (hbase:attributeBase o name X.env (eval o X.env)=eval o X.env:=by rfl)
 (hfew:((backTo cpos (starEach (e::es) X.env)).all (fun x=>!x.1) && (backToKw cpos (keywordEach [] X.env)).all (fun x=>x.1.isSome)
  && decide ((e::es).length+([]:List Keyword).length+(if ([]:List Keyword).isEmpty then 0 else 1)<30))=true:=by rfl)
 (hline:(apos.endLine == cpos.line)=true:=by rfl) (hs:starEach (e::es) X.env=(false,eval e X.env)::starEach es X.env:=by rfl) (hplain:(backTo cpos (starEach es X.env)).any (·.1)=false:=by rfl) :
 PE X (.Call (.Attribute o name apos) (e::es) [] cpos) (tBM X.K T r to t):=by
 intro pins s σ H Q I h
 refine wpAny_Call_method_late hbase hfew hline rfl (thn (ho pins s σ H _ I h) fun v s1 ⟨x,H1,I1,r1,ty,q1⟩=>?_)
 obtain ⟨h1,h2⟩:=tyV_is I1 r1 ty
 refine ⟨T,id,pa,slot,hty,h1,h2,?_⟩
 have hA:=ha cpos pins s1 σ H1 _ I1 q1
 rw [hs] at hA ⊢
 refine Calls.callWith_builtin (by show (false || (backTo cpos (starEach es X.env)).any (·.1))=false;rw [hplain] <;> rfl) (Calls.evalArgs_plain ?_)
 exact thn hA fun us s2 ⟨vs,H2,I2,r2,q2⟩=>hm pins s2 σ H2 x vs v us Q I2 r1 r2 q2
end
def MtM (X:Cx) (id:String) (r:V->List V->Hp->VK->Prop):Prop:=
 ∀ (pins:List (Addr×Obj)) (s:Shared) (σ:St) (H:Hp) (x:V) (xs:List V) (v:Value) (us:List Value) (Q:VK),Inv X pins σ H s->RelV x v->Vals xs us->r x xs H Q->
   wpAny (model X.prog X.w) X.A (call (.builtin id) (v::us)) (EP X pins σ Q) X.xe s
theorem Vals.one:∀ {x:V} {us:List Value},Vals [x] us->∃ u,us=[u]/\RelV x u
 |_,_,.cons r .nil=>⟨_,rfl,r⟩
section
variable {X:Cx} {pins:List (Addr×Obj)} {σ:St} {H:Hp} {s:Shared} {l b:Addr} {xs ys zs:List V}
theorem Inv.lset {its its':List Value} {n:Nat} {f:Array Value->Array Value} {t':Nat} (I:Inv X pins σ H s) (hH:H l=some (.lst xs))
 (e:s.heap.get? l=some { cls:=.type "list",data:=.seq its.toArray n }) (hf:f its.toArray=its'.toArray) (hv:Vals ys its') (hz:ys.length≤sizeLine) :
 Inv X pins σ (upd H l (.lst ys)) { s with heap:=s.heap.update l (Obj.mapSeq f),toks:=t' }:=by
 have q:=PySem.IsL.update e f
 rw [hf] at q
 refine I.write (x:=l) (e:=l) (by rw [hH];exact trivial) (.inl rfl) (fun b' u hb hu=>(Heap.get?_update_other s.heap (Obj.mapSeq f) (Ne.symm hb)).trans hu) ⟨_,q⟩ ?_
 exact ⟨hz,its',_,hv,q⟩
theorem Inv.lstM (I:Inv X pins σ H s) (hH:H l=some (.lst xs)):xs.length≤sizeLine/\∃ (its:List Value) (n:Nat),Vals xs its/\xs.length=its.length/\s.heap.get? l=some { cls:=.type "list",data:=.seq its.toArray n }:=by
 obtain ⟨z,its,n,r,e⟩:=I.hok l _ hH
 exact ⟨z,its,n,r,r.length,e⟩
end
section
variable {X:Cx}
def rAppend:V->List V->Hp->VK->Prop:=fun x vs H Q=>∃ l xs y,x=.ref l/\vs=[y]/\H l=some (.lst xs)/\xs.length<sizeLine/\Q .non (upd H l (.lst (xs++[y])))
theorem mt_append:MtM X "list.append" rAppend:=by
 intro pins s σ H x vs v us Q I rx rv h
 obtain ⟨l,xs,y,rfl,rfl,hH,hz,q⟩:=h
 cases rx
 obtain ⟨u,rfl,ru⟩:=rv.one
 obtain ⟨z,its,n,r,hl,e⟩:=I.lstM hH
 refine call_meets F.slot_list_append ⟨_,e,rfl⟩ F.entry_list_append (F.args_list_append_2 _ _) (PySem.list_append l its.toArray n u (by rw [List.size_toArray];omega)) ⟨e,?_⟩
 refine ⟨.non,_,I.lset (its':=its++[u]) hH e (by simp) (r.append (.cons ru .nil)) ?_,rfl,q⟩
 rw [List.length_append,List.length_singleton]
 omega
end
section
variable {prog:Program} {w:World} {A:Around} {E:Value->Shared->Prop} {s:Shared}
end
section
variable {X:Cx}
end
section
variable {κ:Type} [DecidableEq κ]
def valV (kvs:List (κ×V)) (k:κ):Option V:=(kvs.find? fun kv=>decide (kv.1=k)).map (·.2)
def putK (kvs:List (κ×V)) (k:κ) (v:V):List (κ×V):=
 if (kvs.any fun kv=>decide (kv.1=k))=true then kvs.map (fun kv=>if kv.1=k then (kv.1,v) else kv) else kvs++[(k,v)]
theorem valV_pos {p:κ×V} {r:List (κ×V)} {k:κ} (e:p.1=k):valV (p::r) k=some p.2:=by simp [valV,List.find?_cons,e]
theorem valV_neg {p:κ×V} {r:List (κ×V)} {k:κ} (e:¬ p.1=k):valV (p::r) k=valV r k:=by simp [valV,List.find?_cons,e]
theorem valV_any (k:κ):∀ kvs:List (κ×V),(kvs.any fun kv=>decide (kv.1=k))=(valV kvs k).isSome
 |[]=>rfl
 | p::r=>by
   rw [List.any_cons]
   by_cases e:p.1=k
   ·simp only [valV_pos e,decide_eq_true e,Bool.true_or,Option.isSome_some]
   ·rw [valV_neg e,decide_eq_false e,Bool.false_or];exact valV_any k r
theorem length_putK (kvs:List (κ×V)) (k:κ) (v:V):(putK kvs k v).length≤kvs.length+1:=by
 unfold putK
 split
 ·rw [List.length_map];omega
 ·rw [List.length_append,List.length_cons,List.length_nil];omega
theorem RelO.isSome_eq {o:Option V} {u:Option Value} (r:RelO o u):o.isSome=u.isSome:=by
 cases o with
 | none=>cases u with
   |none=>rfl
   |some _=>exact (show False from r).elim
 | some _=>cases u with
   |none=>exact (show False from r).elim
   |some _=>rfl
theorem KV.val {kvs:List (κ×V)} {vs:List (κ×Value)} (r:KV kvs vs) (k:κ):RelO (valV kvs k) (valueAt vs k):=by
 unfold KV at r
 induction r with
 |nil=>exact True.intro
 | @cons p q ps qs h t ih=>
   obtain ⟨h1,h2⟩:=h
   by_cases e:p.1=k
   ·have e':q.1=k:=h1.symm.trans e
    have b:valueAt (q::qs) k=some q.2:=by simp [valueAt,List.find?_cons,e']
    rw [valV_pos e,b];exact h2
   ·have e':¬ q.1=k:=fun z=>e (h1.trans z)
    have b:valueAt (q::qs) k=valueAt qs k:=by simp [valueAt,List.find?_cons,e']
    rw [valV_neg e,b];exact ih
theorem KV.any {kvs:List (κ×V)} {vs:List (κ×Value)} (r:KV kvs vs) (k:κ):(kvs.any fun kv=>decide (kv.1=k))=vs.any fun kv=>decide (kv.1=k):=by
 unfold KV at r
 induction r with
 |nil=>rfl
 |cons h t ih=>rw [List.any_cons,List.any_cons,ih,h.1]
theorem KV.repl {kvs:List (κ×V)} {vs:List (κ×Value)} (r:KV kvs vs) (k:κ) {y:V} {u:Value} (ry:RelV y u) :
 KV (kvs.map fun kv=>if kv.1=k then (kv.1,y) else kv) (vs.map fun kv=>if kv.1=k then (kv.1,u) else kv):=by
 unfold KV at r ⊢
 induction r with
 |nil=>exact .nil
 | @cons p q ps qs h t ih=>
   rw [List.map_cons,List.map_cons]
   refine .cons ?_ ih
   obtain ⟨h1,h2⟩:=h
   by_cases e:p.1=k
   ·rw [if_pos e,if_pos (h1.symm.trans e)];exact ⟨h1,ry⟩
   ·rw [if_neg e,if_neg (fun z=>e (h1.trans z))];exact ⟨h1,h2⟩
theorem KV.put {kvs:List (κ×V)} {vs:List (κ×Value)} (r:KV kvs vs) (k:κ) {y:V} {u:Value} (ry:RelV y u):KV (putK kvs k y) (stored vs k u):=by
 unfold putK stored
 rw [r.any k]
 by_cases e:(vs.any fun kv=>decide (kv.1=k))=true
 ·rw [if_pos e,if_pos e];exact r.repl k ry
 ·rw [if_neg e,if_neg e];exact Paired.snoc r ⟨rfl,ry⟩
theorem KV.length {kvs:List (κ×V)} {vs:List (κ×Value)} (r:KV kvs vs):kvs.length=vs.length:=Paired.length r
end
theorem kV_is {P:Program} {w:World} {k:Key} {u:Value} (r:RelV (kV k) u):(mixKind P w).is k u=true:=by
 cases k with
 |inl i=>obtain ⟨t,e⟩:=(show ∃ t,u=Value.int i t from r);subst e;exact mixKind_int P w i t
 |inr x=>obtain ⟨t,e⟩:=(show ∃ t,u=Value.str x t from r);subst e;exact mixKind_str P w x t
theorem items_are {P:Program} {w:World}:∀ {ks:List Key} {us:List Value},Vals (ks.map kV) us->ItemsAre (mixKind P w) ks us
 |[],_,r=>by rw [List.map_nil] at r;cases r;exact .nil
 | k::ks,_,r=>by
   rw [List.map_cons] at r
   cases r with
   |cons h t=>exact .cons (kV_is h) (items_are t)
abbrev KT (H:Hp):List (List Key×V)->List (List Key×Addr×Value)->Prop:=Paired fun p q=>p.1=q.1/\H q.2.1=some (.tup (p.1.map kV))/\RelV p.2 q.2.2
theorem KT.val {H:Hp} {kvs:List (List Key×V)} {xs:List (List Key×Addr×Value)} (r:KT H kvs xs) (k:List Key):RelO (valV kvs k) ((atKey xs k).map (·.2)):=by
 induction r with
 |nil=>exact True.intro
 | @cons p q ps qs h t ih=>
   obtain ⟨h1,_,h2⟩:=h
   by_cases e:p.1=k
   ·have e':q.1=k:=h1.symm.trans e
    have b:atKey (q::qs) k=some q.2:=by simp [atKey,List.find?_cons,e']
    rw [valV_pos e,b];exact h2
   ·have e':¬ q.1=k:=fun z=>e (h1.trans z)
    have b:atKey (q::qs) k=atKey qs k:=by simp [atKey,List.find?_cons,e']
    rw [valV_neg e,b];exact ih
theorem KT.repl {H:Hp} {kvs:List (List Key×V)} {xs:List (List Key×Addr×Value)} (r:KT H kvs xs) (k:List Key) {y:V} {u:Value} (ry:RelV y u) :
 KT H (kvs.map fun kv=>if kv.1=k then (kv.1,y) else kv) (xs.map (putAt k u)):=by
 induction r with
 |nil=>exact .nil
 | @cons p q ps qs h t ih=>
   rw [List.map_cons,List.map_cons]
   refine .cons ?_ ih
   obtain ⟨h1,h2,h3⟩:=h
   unfold putAt
   by_cases e:p.1=k
   ·rw [if_pos e,if_pos (h1.symm.trans e)];exact ⟨h1,h2,ry⟩
   ·rw [if_neg e,if_neg (fun z=>e (h1.trans z))];exact ⟨h1,h2,h3⟩
theorem KT.put {H:Hp} {kvs:List (List Key×V)} {xs:List (List Key×Addr×Value)} (r:KT H kvs xs) (k:List Key) {b:Addr} {y:V} {u:Value} (hb:H b=some (.tup (k.map kV))) (ry:RelV y u) :
 KT H (putK kvs k y) (storedH xs k b u):=by
 have e:(kvs.any fun kv=>decide (kv.1=k))=(atKey xs k).isSome:=by
  rw [valV_any,(r.val k).isSome_eq,Option.isSome_map]
 unfold putK storedH
 rw [e]
 by_cases q:(atKey xs k).isSome=true
 ·rw [if_pos q,if_pos q];exact r.repl k ry
 ·rw [if_neg q,if_neg q];exact Paired.snoc r ⟨rfl,hb,ry⟩
theorem KT.keeps {H H':Hp} {kvs:List (List Key×V)} {xs:List (List Key×Addr×Value)} (r:KT H kvs xs) (ht:∀ b ys,H b=some (.tup ys)->H' b=some (.tup ys)):KT H' kvs xs:=
 Paired.mapP r fun _ _ z=>⟨z.1,ht _ _ z.2.1,z.2.2⟩
section
variable {P:Program} {w:World} {H:Hp} {h:Heap} {a:Addr}
theorem rd_of {u:HO} (ok:HOk P w H h) (e:Rd H a u):ObjOk P w H h a u:=e.ok ok
theorem dk_rd {kvs:List (Key×V)} (ok:HOk P w H h) (e:Rd H a (.dK kvs)):kvs.length≤sizeLine/\(a == sysModules)=false/\∃ vs,KV kvs vs/\h.DictOf (mixKind P w) a vs:=
 show ObjOk P w H h a (.dK kvs) from rd_of ok e
theorem dk_of {kvs:List (Key×V)} (ok:HOk P w H h) (e:H a=some (.dK kvs)):kvs.length≤sizeLine/\(a == sysModules)=false/\∃ vs,KV kvs vs/\h.DictOf (mixKind P w) a vs:=dk_rd ok (.inl e)
theorem key_of {ks:List Key} (ok:HOk P w H h) (e:H a=some (.tup (ks.map kV))):(tupleKind (mixKind P w)).is h ks a:=by
 obtain ⟨_,its,r,o,h1,h2,n,h3⟩:=(show ObjOk P w H h a (.tup (ks.map kV)) from ok a _ e)
 exact ⟨o,its.toArray,n,h1,h2,h3,by simpa using items_are r⟩
theorem dt_rd {kvs:List (List Key×V)} (ok:HOk P w H h) (e:Rd H a (.dT kvs)):kvs.length≤sizeLine/\(a == sysModules)=false/\
 ∃ xs,KT H kvs xs/\h.DictOfH (tupleKind (mixKind P w)) a xs:=by
 obtain ⟨z,y,xs,r,o,es,ep,h1,h2,h3,h4,h5⟩:=(show ObjOk P w H h a (.dT kvs) from rd_of ok e)
 refine ⟨z,y,xs,r,o,es,ep,h1,h2,h3,h4,fun x hx=>?_,h5⟩
 have all:∀ {l:List (List Key×V)} {m:List (List Key×Addr×Value)},KT H l m->∀ x∈m,(tupleKind (mixKind P w)).is h x.1 x.2.1:=by
  intro l m q
  induction q with
  |nil=>intro x hx;exact nomatch hx
  | @cons p q ps qs hq t ih=>
    intro x hx
    rcases List.mem_cons.mp hx with e|hx
    ·subst e
     exact key_of ok (by rw [← hq.1];exact hq.2.1)
    ·exact ih x hx
 exact all r x hx
theorem dt_of {kvs:List (List Key×V)} (ok:HOk P w H h) (e:H a=some (.dT kvs)):kvs.length≤sizeLine/\(a == sysModules)=false/\
 ∃ xs,KT H kvs xs/\h.DictOfH (tupleKind (mixKind P w)) a xs:=dt_rd ok (.inl e)
end
def DGet (H:Hp) (a:Addr) (y:V) (r:Option V):Prop:=
 (∃ kvs k,Rd H a (.dK kvs)/\y=kV k/\r=valV kvs k)∨∃ kvs k b,Rd H a (.dT kvs)/\y=.ref b/\H b=some (.tup (k.map kV))/\r=valV kvs k
def DPut (H:Hp) (a:Addr) (y v:V) (H':Hp):Prop:=
 (∃ kvs k,H a=some (.dK kvs)/\y=kV k/\kvs.length<sizeLine/\H'=upd H a (.dK (putK kvs k v)))∨
 ∃ kvs k b,H a=some (.dT kvs)/\y=.ref b/\H b=some (.tup (k.map kV))/\kvs.length<sizeLine/\H'=upd H a (.dT (putK kvs k v))
theorem DGet.k {H:Hp} {a:Addr} {kvs:List (Key×V)} {k:Key} (e:H a=some (.dK kvs)):DGet H a (kV k) (valV kvs k):=.inl ⟨kvs,k,.inl e,rfl,rfl⟩
theorem DPut.k {H:Hp} {a:Addr} {kvs:List (Key×V)} {k:Key} {v:V} (e:H a=some (.dK kvs)) (hl:kvs.length<sizeLine):DPut H a (kV k) v (upd H a (.dK (putK kvs k v))):=.inl ⟨kvs,k,e,rfl,hl,rfl⟩
section
variable {X:Cx} {pins:List (Addr×Obj)} {σ:St} {H:Hp} {s:Shared} {a:Addr} {y v:V} {u r:Value} {o:Option V} {A:Around} {E:Value->Shared->Prop}
theorem Inv.big (I:Inv X pins σ H s):sysModules<s.heap.objs.size:=by
 have h:mainGlobals<s.heap.objs.size:=(I.mod.glob.keeps I.bk).lt
 exact Nat.lt_trans (by decide) h
theorem d_getItem {Q:Value->Shared->Prop} (hu:A.units+1<cLine) (I:Inv X pins σ H s) (g:DGet H a y (some v)) (ry:RelV y u) (h:∀ w' s',Inv X pins σ H s'->RelV v w'->Q w' s') :
 wpAny (model X.prog X.w) A (getItem (.ref a) u) Q E s:=by
 rcases g with ⟨kvs,k,e,ey,l⟩|⟨kvs,k,b,e,ey,eb,l⟩
 ·subst ey
  obtain ⟨z,hd,vs,rel,dd⟩:=dk_rd I.hok e
  obtain ⟨w',hw,rw'⟩:=RelO.some_of (v:=v) (o:=valueAt vs k) (by rw [l];exact rel.val k)
  exact wpAny_getItem_of (kV_is ry) dd.mapOf hw (h w' _ (I.tok _) rw')
 ·subst ey
  cases (show u=Value.ref b from ry)
  obtain ⟨z,hd,xs,rel,dd⟩:=dt_rd I.hok e
  obtain ⟨w',hw,rw'⟩:=RelO.some_of (v:=v) (o:=(atKey xs k).map (·.2)) (by rw [l];exact rel.val k)
  obtain ⟨p,hp,hp2⟩:=Option.map_eq_some_iff.mp hw
  refine wpAny_getItem_heap (tupleKind_room_in1 hu) (key_of I.hok eb) dd hp ?_
  rw [hp2]
  exact h w' _ (I.tok _) rw'
theorem d_write {h':Heap} {t':Nat} {ob:HO} (I:Inv X pins σ H s) (mu:Mut (H a)) (hs:Heap.SameBut a s.heap h') (he:∃ q,h'.get? a=some q) (new:ObjOk X.prog X.w (upd H a ob) h' a ob) :
 Inv X pins σ (upd H a ob) { s with heap:=h',toks:=t' }:=
 I.write (x:=a) (e:=a) mu (.inl rfl) (fun b q hb z=>(hs.2 b hb).trans z) he new
theorem dk_new {P:Program} {w:World} {H':Hp} {h':Heap} {kvs:List (Key×V)} {vs:List (Key×Value)} (z:kvs.length≤sizeLine) (hd:(a == sysModules)=false) (rel:KV kvs vs) (dd:h'.DictOf (mixKind P w) a vs) :
 ObjOk P w H' h' a (.dK kvs):=⟨z,hd,vs,rel,dd⟩
theorem d_setItem {H':Hp} {Q:Unit->Shared->Prop} (hu:A.units+1<cLine) (I:Inv X pins σ H s) (g:DPut H a y v H') (ry:RelV y u) (rv:RelV v r) (h:∀ s',Inv X pins σ H' s'->Q () s') :
 wpAny (model X.prog X.w) A (setItem (.ref a) u r) Q E s:=by
 rcases g with ⟨kvs,k,e,ey,l,eH⟩|⟨kvs,k,b,e,ey,eb,l,eH⟩
 ·subst ey eH
  obtain ⟨z,hd,vs,rel,dd⟩:=dk_of I.hok e
  have hz:vs.length≤sizeLine:=by rw [← rel.length];exact z
  have hl:(putK kvs k v).length≤sizeLine:=by have:=length_putK kvs k v;omega
  refine wpAny_setItem_pairs (hsz:=hz) (kV_is ry) dd fun h' dd' hs=>h _ ?_
  have he:∃ q,h'.get? a=some q:=let ⟨q,_,_,hq,_⟩:=dd';⟨q,hq⟩
  exact d_write I (by rw [e];exact True.intro) hs he (dk_new hl hd (rel.put k rv) dd')
 ·subst ey eH
  cases (show u=Value.ref b from ry)
  obtain ⟨z,hd,xs,rel,dd⟩:=dt_of I.hok e
  have hz:xs.length≤sizeLine:=by rw [← Paired.length rel];exact z
  have hl:(putK kvs k v).length≤sizeLine:=by have:=length_putK kvs k v;omega
  refine wpAny_setItem_heap (hsz:=hz) (tupleKind_room_in1 hu) (key_of I.hok eb) dd fun h' dd' hs=>h _ ?_
  obtain ⟨q,es,ep,hq,h2,h3,h4,_,h5⟩:=dd'
  refine d_write I (by rw [e];exact True.intro) hs ⟨q,hq⟩ ⟨hl,hd,_,(rel.put k eb rv).keeps fun c ys ec=>?_,q,es,ep,hq,h2,h3,h4,h5⟩
  rw [upd_ne (ne_of ec e (fun z=>nomatch z))]
  exact ec
end
section
variable {X:Cx} {pins:List (Addr×Obj)} {σ:St} {H:Hp} {s:Shared} {a:Addr} {kvs:List (Key×V)} {k:Key} {u:Value} {A:Around} {E:Value->Shared->Prop}
theorem d_len {Q:Value->Shared->Prop} (I:Inv X pins σ H s) (e:Rd H a (.dK kvs)) (h:∀ t s',Inv X pins σ H s'->Q (.int kvs.length t) s'):wpAny (model X.prog X.w) A (call (.builtin "len") [.ref a]) Q E s:=by
 obtain ⟨z,hd,vs,rel,dd⟩:=dk_rd I.hok e
 refine call_len_dict hd dd (by rw [← rel.length];rw [sizeLine_eq] at z;omega) ?_
 rw [← rel.length]
 exact h _ _ (I.tok _)
end
def NoSl (i:Expr):Prop:=∀ ov iv,subscripted i false ov iv=operate [ov,iv] (getItem ov iv)
theorem subD_of {prog:Program} {w:World} {A:Around} {E:Value->Shared->Prop} {s:Shared} {env:Env} {value slice:Expr} {pos:Pos} {T id:String} {Q:Value->Shared->Prop}
 (hl:typeLookup (.type T) "__getitem__" = pure (some (.builtin id))) (hs:NoSl slice)
 (h:wpAny (model prog w) A (eval value env) (fun o s₁=>wpAny (model prog w) A (eval slice env) (fun i s₂=>s₂.TypeIs o T/\wpAny (model prog w) A (getItem o i) Q E s₂) E s₁) E s) :
 wpAny (model prog w) A (eval (.Subscript value slice pos) env) Q E s:=by
 refine Subscript_ (wpAny_mono h (fun o s₁ h₁=>wpAny_mono h₁ (fun i s₂ h₂=>?_) fun _ _ x=>x) fun _ _ x=>x)
 obtain ⟨hT,h₂⟩:=h₂
 unfold subscriptTail
 refine wpAny_bind ?_
 rw [getitemInPython_of_ne hT.not_modules]
 refine wpAny_bind (wpAny_specialOf hT hl ?_)
 have fin:wpAny (model prog w) A (subscripted slice false o i) (fun r s₃=>wpAny (model prog w) A (letTemporaryGo value o r >>= fun _=>pure r) Q E s₃) E s₂:=by
  rw [hs o i]
  exact wpAny_operating (wpAny_mono h₂ (fun r s₃ h₃=>wpAny_bind (wpAny_letTemporaryGo (wpAny_pure h₃))) fun _ _ x=>x)
 first
  |exact wpAny_pure (wpAny_bind fin)
  |exact wpAny_bind (wpAny_pure (wpAny_bind fin))
  |exact wpAny_bind fin
theorem dict_typeIs {X:Cx} {pins:List (Addr×Obj)} {σ:St} {H:Hp} {s:Shared} {a:Addr} {y:V} {o:Option V} (I:Inv X pins σ H s) (g:DGet H a y o):s.TypeIs (.ref a) "dict":=by
 rcases g with ⟨kvs,k,e,_,_⟩|⟨kvs,k,b,e,_,_,_⟩
 ·obtain ⟨_,_,vs,_,dd⟩:=dk_rd I.hok e
  exact dd.typeIs
 ·obtain ⟨_,_,xs,_,dd⟩:=dt_rd I.hok e
  exact dd.typeIs
def tDGet (td ty:TE):TE:=fun σ H Q=>td σ H fun x H1=>ty σ H1 fun y H2=>∃ a v,x=.ref a/\DGet H2 a y (some v)/\Q v H2
def sDPut (td ty tv:TE):TS:=fun D σ H=>tv σ H fun v H1=>td σ H1 fun x H2=>ty σ H2 fun y H3=>∃ a H4,x=.ref a/\DPut H3 a y v H4/\D.nx σ H4
section
variable {X:Cx} {o i e value:Expr} {pos pos' tpos:Pos} {td ty tv:TE}
theorem pe_dget (hu:X.A.units+1<cLine) (ho:PE X o td) (hi:PE X i ty) (hs:NoSl i):PE X (.Subscript o i pos) (tDGet td ty):=by
 intro pins s σ H Q I h
 refine subD_of PySem.F.slot_dict_getitem.lookup hs (thn (ho pins s σ H _ I h) fun u s1 ⟨x,H1,I1,rx,q1⟩=>thn (hi pins s1 σ H1 _ I1 q1) fun iv s2 ⟨y,H2,I2,ry,a,v,ex,g,q2⟩=>?_)
 subst ex
 obtain rfl:u=Value.ref a:=rx
 exact ⟨dict_typeIs I2 g,d_getItem hu I2 g ry fun w' s3 I3 rw'=>⟨v,H2,I3,rw',q2⟩⟩
theorem ps_dput (hu:X.A.units+1<cLine) (ho:PE X o td) (hi:PE X i ty) (hv:PE X value tv) (hs:swapsWith value (some (.Subscript o i pos')) pos.line X.env=pure false) :
 PS X (.Assign [.Subscript o i pos'] value pos) (sDPut td ty tv):=by
 intro pins s σ H D I h
 refine wpAny_Assign_Subscript (thn (hv pins s σ H _ I h) fun r s1 ⟨v,H1,I1,rv,q1⟩=>thn (ho pins s1 σ H1 _ I1 q1) fun u s2 ⟨x,H2,I2,rx,q2⟩=>thn (hi pins s2 σ H2 _ I2 q2) fun iv s3 ⟨y,H3,I3,ry,a,H4,ex,g,q3⟩=>?_) hs
 subst ex
 obtain rfl:u=Value.ref a:=rx
 exact d_setItem hu I3 g ry rv fun s4 I4=>⟨σ,H4,I4,q3⟩
end
theorem dk_empty {P:Program} {w:World} {H:Hp} (h:Heap) (hb:sysModules<h.objs.size):ObjOk P w H (h.push { cls:=.type "dict",data:=.dict #[] }) h.objs.size (.dK []):=
 ⟨Nat.zero_le _,beq_eq_false_iff_ne.mpr (Ne.symm (Nat.ne_of_lt hb)),[],.nil,Heap.DictOf.new h⟩
def tDNewK:TE:=fun _ H Q=>∀ p,H p=none->Q (.ref p) (upd H p (.dK []))
section
variable {X:Cx} {pos:Pos}
theorem pe_dnewK:PE X (.Dict [] [] pos) tDNewK:=fun pins s σ H Q I h=>
 wpAny_Dict_empty ⟨.ref s.heap.objs.size,_,I.laid (a:=s.heap.objs.size) (o:=.dK []) (t':=s.toks) (fun _ _ q=>Heap.get?_push_of_some _ q) (Nat.le_refl _) (dk_empty s.heap I.big),rfl,h _ (I.hok.fresh (Nat.le_refl _))⟩
end
def tPairs:List (TE×TE)->St->Hp->(List (V×V)->Hp->Prop)->Prop
 |[],_,H,Q=>Q [] H
 |(tk,tv)::r,σ,H,Q=>tk σ H fun x H1=>tv σ H1 fun y H2=>tPairs r σ H2 fun ps H3=>Q ((x,y)::ps) H3
abbrev VV:List (V×V)->List (Value×Value)->Prop:=Paired fun p q=>RelV p.1 q.1/\RelV p.2 q.2
def PPs (X:Cx) (pos:Pos) (keys:List (Option Expr)) (values:List Expr) (trs:List (TE×TE)):Prop:=
 ∀ (pins:List (Addr×Obj)) (s:Shared) (σ:St) (H:Hp) (Q:List (V×V)->Hp->Prop),Inv X pins σ H s->tPairs trs σ H Q->
   wpAny (model X.prog X.w) X.A (evalPairs (pairTrees keys values X.env pos)) (fun vs s'=>∃ ps H',Inv X pins σ H' s'/\VV ps vs/\Q ps H') X.xe s
theorem pps_nil {X:Cx} {pos:Pos}:PPs X pos [] [] []:=fun pins s σ H Q I h=>pairTrees_nil_walk ⟨[],H,I,.nil,h⟩
theorem pps_cons {X:Cx} {pos:Pos} {k v:Expr} {ks:List (Option Expr)} {vs:List Expr} {tk tv:TE} {trs:List (TE×TE)} (hk:PE X k tk) (hv:PE X v tv) (hr:PPs X pos ks vs trs) :
 PPs X pos (some k::ks) (v::vs) ((tk,tv)::trs):=fun pins s σ H Q I h=>
 pairTrees_cons_walk (thn (hk pins s σ H _ I h) fun u s1 ⟨x,H1,I1,rx,q1⟩=>thn (hv pins s1 σ H1 _ I1 q1) fun w2 s2 ⟨y,H2,I2,ry,q2⟩=>
  thn (hr pins s2 σ H2 _ I2 q2) fun ws s3 ⟨ps,H3,I3,rel,q3⟩=>⟨(x,y)::ps,H3,I3,.cons ⟨rx,ry⟩ rel,q3⟩)
def mergeK (kvs more:List (Key×V)):List (Key×V):=more.foldl (fun acc kv=>putK acc kv.1 kv.2) kvs
theorem KV.merge:∀ {more:List (Key×V)} {rs:List (Key×Value)} {kvs:List (Key×V)} {vs:List (Key×Value)},KV more rs->KV kvs vs->KV (mergeK kvs more) (merged vs rs):=by
 intro more rs kvs vs r
 unfold KV at r
 induction r generalizing kvs vs with
 |nil=>intro q;exact q
 | @cons p q ps qs h t ih=>
   intro r0
   have e:KV (putK kvs p.1 p.2) (stored vs q.1 q.2):=by
    have:=r0.put p.1 h.2
    rw [← h.1];exact this
   exact ih e
theorem length_mergeK:∀ (more kvs:List (Key×V)),(mergeK kvs more).length≤kvs.length+more.length
 |[],kvs=>by show kvs.length≤kvs.length+0;omega
 | p::r,kvs=>by
   have h1:=length_mergeK r (putK kvs p.1 p.2)
   have h2:=length_putK kvs p.1 p.2
   show (mergeK (putK kvs p.1 p.2) r).length≤_
   rw [List.length_cons];omega
theorem carries_of {P:Program} {w:World}:∀ {kvs:List (Key×V)} {ws:List (Value×Value)},VV (kvs.map fun kv=>(kV kv.1,kv.2)) ws->∃ rs,Carries (mixKind P w) ws rs/\KV kvs rs
 |[],_,r=>by rw [List.map_nil] at r;cases r;exact ⟨[],True.intro,.nil⟩
 | p::kvs,_,r=>by
   rw [List.map_cons] at r
   cases r with
   | @cons a b as bs h t=>
     obtain ⟨rs,c,q⟩:=carries_of (P:=P) (w:=w) t
     obtain ⟨b1,b2⟩:=b
     exact ⟨(p.1,b2)::rs,⟨kV_is h.1,rfl,c⟩,.cons ⟨rfl,h.2⟩ q⟩
def tDisp (trs:List (TE×TE)):TE:=fun σ H Q=>∀ p,H p=none->tPairs trs σ (upd H p (.dK [])) fun ps H2=>H2 p=some (.dK [])/\∃ kvs:List (Key×V),ps=kvs.map (fun kv=>(kV kv.1,kv.2))/\kvs.length≤15/\Q (.ref p) (upd H2 p (.dK (mergeK [] kvs)))
theorem pe_disp {X:Cx} {pos:Pos} {keys:List (Option Expr)} {values:List Expr} {trs:List (TE×TE)} (h:PPs X pos keys values trs) (hall:keys.all (·.isSome)=true) (hl:keys.length=values.length) (h0:keys≠[])
 (h15:keys.length≤15):PE X (.Dict keys values pos) (tDisp trs):=by
 intro pins s σ H Q I q
 have hn:=I.hok.fresh (Nat.le_refl s.heap.objs.size)
 have I1:=I.laid (a:=s.heap.objs.size) (o:=.dK []) (h':=s.heap.push { cls:=.type "dict",data:=.dict #[] }) (t':=s.toks) (fun _ _ q=>Heap.get?_push_of_some _ q) (Nat.le_refl _) (dk_empty s.heap I.big)
 refine wpAny_Dict_walk (knd:=mixKind X.prog X.w) hall hl h0 h15 (thn (h pins _ σ _ _ I1 (q _ hn)) fun ws s2 ⟨ps,H2,I2,rel,e,kvs,ep,lk,q2⟩=>?_)
 subst ep
 obtain ⟨rs,c,rk⟩:=carries_of (P:=X.prog) (w:=X.w) rel
 obtain ⟨z,hd,vs0,r0,dd⟩:=dk_of I2.hok e
 cases r0
 refine ⟨rs,c,dd,fun h' dd' hs=>⟨.ref s.heap.objs.size,_,?_,rfl,q2⟩⟩
 have hz:(mergeK [] kvs).length≤sizeLine:=by
  have h1:=length_mergeK kvs []
  rw [List.length_nil] at h1
  rw [sizeLine_eq];omega
 have he:∃ q,h'.get? s.heap.objs.size=some q:=let ⟨q,_,_,hq,_⟩:=dd';⟨q,hq⟩
 exact d_write I2 (by rw [e];exact True.intro) hs he (dk_new hz hd (rk.merge .nil) dd')
structure M1 (X:Cx) (o:Expr) (m:Str) (apos:Pos) (e:Expr) (cpos:Pos):Prop where
 base:attributeBase o m X.env (eval o X.env)=eval o X.env
 few:((backTo cpos (starEach [e] X.env)).all (fun x=>!x.1) && (backToKw cpos (keywordEach [] X.env)).all (fun x=>x.1.isSome)
  && decide (([e]:List Expr).length+([]:List Keyword).length+(if ([]:List Keyword).isEmpty then 0 else 1)<30))=true
 line:(apos.endLine == cpos.line)=true
 trees:backTo cpos (starEach [e] X.env)=[(false,eval e X.env)]
section
variable {X:Cx} {pins:List (Addr×Obj)} {σ:St} {H:Hp} {s:Shared} {a:Addr} {y d:V} {u r:Value} {o:Option V} {A:Around} {E:Value->Shared->Prop}
end
section
variable {X:Cx} {o e f:Expr} {apos cpos:Pos} {td ty tx:TE}
end
section
variable {X:Cx} {pins:List (Addr×Obj)} {σ:St} {H:Hp} {s:Shared} {a:Addr} {kvs:List (Key×V)} {A:Around} {E:Value->Shared->Prop}
end
section
variable {X:Cx} {pins:List (Addr×Obj)} {σ:St} {H:Hp} {s:Shared} {a:Addr} {y:V} {u:Value} {A:Around} {E:Value->Shared->Prop}
end
end L2
namespace Att
open PySem PySem.W PySem.Calls PyProof.Rows
theorem ints_of_wellAll {P:Params} {h:Heap}:∀ (ns:List Int) (vs:List Value),WellAll P h vs (ns.map WData.int)->IntsAre vs ns:=by
 intro ns
 induction ns with
 | nil=>
   intro vs w
   rw [List.map_nil] at w
   cases w
   exact .nil
 | cons n ns ih=>
   intro vs w
   rw [List.map_cons] at w
   cases w with
   | cons a b=>
     cases a
     exact .cons _ _ (ih _ b)
theorem script_of {l:OpenLaw} {n:Nat} (hn:l.most=some n) {P:Params} {h:Heap} {args:List WData} {vals:List Value}
 (hpre:l.row.toRowW.claim.pre args=true) (hwl:WellAll P h vals args) :
 ∃ a vs ns,vals=[Value.ref a]/\args=[WData.list (ns.map WData.int)]/\h.get? a=some { cls:=.type "list",data:=.seq vs.toArray }/\IntsAre vs ns/\ns.length≤n:=by
 have hsh:WShape.hasAll [] args [.list .int]=true:=(pre_splitW hpre).1
 have hc:l.pre.holds [] { args:=args }=true:=(pre_splitW hpre).2
 obtain ⟨d,r,rfl,h1,h2⟩:=hasAllW_cons hsh
 obtain rfl:=hasAllW_nil h2
 obtain ⟨xs,rfl,h3⟩:=hasW_list h1
 obtain ⟨ns,rfl⟩:=items_int h3
 have hlen:ns.length≤n:=by
  unfold OpenLaw.pre at hc
  have h4:(WTm.not (.lt (.lit (.int (n:Int))) (.len (.arg 0)))).holds [] { args:=[.list (ns.map .int)] }=true:=by
   have h4:=(holds_andW hc).1
   rw [hn] at h4
   exact h4
  have h5:=condW_of h4 (w_not (w_lt w_lit (w_len_list (w_arg rfl))))
  rw [List.length_map] at h5
  refine Nat.le_of_not_lt fun q=>?_
  have q':(n:Int)<((ns.length:Nat):Int):=by omega
  first
   |(rw [decide_eq_true q'] at h5;exact absurd h5 (by decide))
   |(simp at h5;omega)
 cases hwl with
 | cons w1 w2=>
   cases w2
   cases w1 with
   |list ho hall=>exact ⟨_,_,ns,rfl,rfl,ho,ints_of_wellAll ns _ hall,hlen⟩
theorem post_true (l:OpenLaw) (args:List WData):l.row.toRowW.claim.post args (.bool true) args=true:=
 postW_of (r:=l.row.toRowW) (X:=(true == true))
  (show WShape.has [] (.bool true) .bool=true by first|rfl|decide|simp [WShape.has,WShape.arms,WShape.armsAll])
  (show (WTm.eq .res (.lit (.bool true))).value [] { args:=args,res:=some (.bool true),after:=args }=some (.bool (true == true)) from w_eq_bool (w_res rfl) w_lit) rfl
theorem attach_call {l:OpenLaw} {n:Nat} {q:Program} {loose:List Str} {XP:(Str->Option Value)->Heap->Prop} {YP:World->Heap->Prop} {d:DefRec}
 (hn:l.most=some n) (hdf:d.params.defaults=[])
 (call:∀ (w:World) (s₀ s₁:Shared) (mg mb:Str->Option Value) (fa:Addr) (o:Obj) (pm cd doc:Value) (a:Addr) (vs:List Value) (ns:List Int),
  Ground q loose [] XP w s₀ mg mb s₁.heap->YP w s₁.heap->
  s₁.heap.get? fa=some o->o.data=.func (docDef d.name d.params d.body d.scope pm cd doc)->s₁.heap.CodeRec cd d.name->mg d.name=some (.ref fa)->
  s₁.heap.get? a=some { cls:=.type "list",data:=.seq vs.toArray }->IntsAre vs ns->ns.length≤n->s₁.gens=#[]->
  codeAny (model l.prog w) callerA (.call (.ref fa) ⟨[.ref a],[]⟩) (fun r s'=>r=.ok (.ret (.bool true))/\OldK s₁.heap s'.heap/\s'.os=s₁.os/\AllBare s'.gens) s₁) :
 WalkO q loose XP YP l.row.toRowW d [] (fun f vs=>PySem.call f vs):=by
 intro w s₀ s₁ mg mb G Y fa o pm cd doc dV kV ho hd hcd hD hmg hg args vals as hpre hlay hrd hwl hlo
 obtain rfl:dV=.none:=Dflts.none hD hdf
 obtain rfl:kV=.none:=Dflts.noKw hD
 obtain ⟨a,vs,ns,rfl,rfl,hobj,hints,hlen⟩:=script_of hn hpre hwl
 refine enter_call (codeAny_mono (call w s₀ s₁ mg mb fa o pm cd doc a vs ns G Y ho (fd_plain hd) hcd hmg hobj hints hlen hg) fun r s' hq=>?_)
 obtain ⟨rfl,h2,h3,h4⟩:=hq
 exact ⟨.inl ⟨.bool true,.bool true,[],rfl,fun _=>rfl,.bool true,post_true l _,fun _=>⟨List.Pairwise.nil,fun _ hm=>(nomatch hm)⟩⟩,h2,h3,h4⟩
section
variable {prog:Program} {w:World} {A:Around} {E:Value->Shared->Prop} {s:Shared} {K:Frag}
end
end Att
namespace L2
open PySem PySem.Spec PyProof.Rows
theorem vals_ints:∀ {vs:List Value} {ns:List Int},IntsAre vs ns->Vals (ns.map V.int) vs
 |_,_,.nil=>.nil
 |_,_,.cons n t h=>.cons ⟨t,rfl⟩ (vals_ints h)
def inClass (s:Stmt) (j:Nat):Stmt:=match s with
 |.ClassDef _ _ _ body _ _ _ _ _ _ _=>body.getD j (.Pass ⟨0,0,0,0⟩)
 |_=>.Pass ⟨0,0,0,0⟩
def defArgs (s:Stmt):Arguments:=match s with
 |.FunctionDef _ a _ _ _ _ _ _ _ _=>a
 |_=>{ posonlyargs:=[],args:=[],vararg:=none,kwonlyargs:=[],kw_defaults:=[],kwarg:=none,defaults:=[] }
def defBody (s:Stmt):List Stmt:=match s with
 |.FunctionDef _ _ b _ _ _ _ _ _ _=>b
 |_=>[]
def defScope (s:Stmt):Scope:=match s with
 |.FunctionDef _ _ _ _ _ _ sc _ _ _=>sc
 |_=>{ kind:=.function,names:=[],isGenerator:=false,isCoroutine:=false }
abbrev CX0:CXT:=fun _ _ _ _ _ _=>False
abbrev E0:XK:=fun _ _ _=>False
theorem pass0 {X:Cx}:Passes CX0 X E0:=fun _ _ _ _ _ _ _ h=>h.elim
structure Fun (K:PySem.W.Frag) (x qual:Str) (st:Stmt) (f:Addr) (fd:FuncData):Prop where
 ex:∃ (oc:Value) (od:Option Addr) (kV doc pm:Value) (an:Option Addr) (cdv ct:Value) (osl:Array (Option Value)),
  fd=PySem.W.fnOf x qual (defArgs st) (defBody st) (defScope st) .none kV doc pm an cdv ct/\K.lookup f=some ⟨oc,od,.func fd,osl⟩/\PySem.W.codeIn K cdv qual=true
 kp:PySem.W.keepIn K (.ref f)=true
section
variable {P:Program} {w:World} {K:PySem.W.Frag} {mg:Str->Option Value} {base:Heap}
theorem Fun.ok {x qual:Str} {st:Stmt} {f:Addr} {fd:FuncData} {N ps:List Str} {k:Nat} {sp:Sp} (F:Fun K x qual st f fd) (S:FnScope N ps (defScope st)) (len:∀ vs H Q E,sp vs H Q E->vs.length=ps.length)
 (hbody:∀ (cdv:Value) (A:Around) (outer:List Env) (s:Shared) (H:Hp) (vs:List V) (Q:VK) (E:XK),Room k (A.deeper (envOfC qual (defScope st) s.heap.objs.size f cdv))->sp vs H Q E->
  ∃ t,PSs (cxOf CX0 P w K mg base N qual (defScope st) f cdv A outer s H E).nox (defBody st) t/\t { nx:=fun _ H'=>Q .non H',rt:=Q } (start N vs) H):FnOk P w K mg base CX0 (k+1) f fd ps sp:=by
 obtain ⟨oc,od,kV,doc,pm,an,cdv,ct,osl,rfl,lk,hcd⟩:=F.ex
 refine fn_of lk hcd S len fun A outer s H vs Q E hr hsp=>?_
 obtain ⟨t,h,q⟩:=hbody cdv A outer s H vs Q E hr hsp
 exact ⟨t,h.nox,q⟩
theorem Fun.binds {x qual:Str} {st:Stmt} {f:Addr} {fd:FuncData} {ps:List Str} (F:Fun K x qual st f fd)
 (h:∀ (kV doc pm:Value) (an:Option Addr) (cdv ct:Value) (us:List Value),us.length=ps.length->bindArgs (PySem.W.fnOf x qual (defArgs st) (defBody st) (defScope st) .none kV doc pm an cdv ct) ⟨us,[]⟩=pure (ps.zip us)):Binds K fd ps []:=by
 obtain ⟨oc,od,kV,doc,pm,an,cdv,ct,osl,rfl,lk,hcd⟩:=F.ex
 exact .all (h kV doc pm an cdv ct)
theorem fun_mk {x qual:Str} {st:Stmt} {f:Addr} {oc:Value} {od an:Option Addr} {osl:Array (Option Value)} {kV doc pm cdv ct:Value} (l:K.lookup f=some ⟨oc,od,.func (PySem.W.fnOf x qual (defArgs st) (defBody st) (defScope st) .none kV doc pm an cdv ct),osl⟩)
 (c:PySem.W.codeIn K cdv qual=true) (k:PySem.W.keepIn K (.ref f)=true):Fun K x qual st f (PySem.W.fnOf x qual (defArgs st) (defBody st) (defScope st) .none kV doc pm an cdv ct):=⟨⟨oc,od,kV,doc,pm,an,cdv,ct,osl,rfl,l,c⟩,k⟩
end
theorem hu_of {A:Around} {k:Nat} (hr:Room k A):A.units+1<cLine:=Nat.lt_of_le_of_lt (Nat.add_le_add_left (by decide:1≤64) _) hr.units
theorem small1000 {n:Nat} (h:n≤1000):n<sizeLine:=Nat.lt_of_le_of_lt h (by decide)
section
variable {X:Cx}
theorem pv (i:Nat) {x:Str} {pos:Pos} (hN:X.N[i]?=some x:=by rfl) (hv:Vis X.env.scope x:=by first|exact Or.inl rfl|exact Or.inr (Or.inl rfl)|exact Or.inr (Or.inr rfl)) (hd:(x == ("__debug__" : Str))=false:=by decide)
 (hcd:(x == ("__classdict__" : Str))=false:=by decide):PE X (.Name x pos) (tVar i):=pe_var hN hv hd hcd
end
theorem ite2 {c A B:Prop} [Decidable c] (h1:c->A) (h2:¬ c->B):if c then A else B:=by
 by_cases h:c
 ·rw [if_pos h]
  exact h1 h
 ·rw [if_neg h]
  exact h2 h
def Same (H H':Hp):Prop:=∀ b o,H b=some o->H' b=some o
theorem Same.refl (H:Hp):Same H H:=fun _ _ h=>h
theorem Same.trans {H H1 H2:Hp} (a:Same H H1) (b:Same H1 H2):Same H H2:=fun c o h=>b c o (a c o h)
theorem Same.free {H H':Hp} (e:Same H H') {l:Addr} (h:H' l=Option.none):H l=Option.none:=by
 cases q:H l with
 |none=>rfl
 | some o=>
   rw [e l o q] at h
   cases h
theorem Same.seq {K:PySem.W.Frag} {H H':Hp} {a:Addr} {xs:List V} (e:Same H H') (h:SqL K H a xs):SqL K H' a xs:=by
 rcases h with (h|⟨o,h⟩)|h
 ·exact .inl (.inl (e _ _ h))
 ·exact .inl (.inr ⟨o,e _ _ h⟩)
 ·exact .inr h
section
variable {X:Cx}
theorem call_lenD:CallR X (.builtin "len") (fun xs H Q=>∃ a kvs,xs=[V.ref a]/\H a=some (.dK kvs)/\Q (.int kvs.length) H):=by
 intro pins s σ H xs us Q I r h
 obtain ⟨a,kvs,rfl,ha,q⟩:=h
 obtain ⟨u,rfl,ru⟩:=vals1 r
 cases ru
 exact d_len I (.inl ha) fun t s' I'=>⟨.int kvs.length,H,I',⟨t,rfl⟩,q⟩
end
section
variable {κ:Type} [DecidableEq κ]
theorem nd_snoc:∀ {l:List κ} {k:κ},l.Nodup->¬ k∈l->(l++[k]).Nodup
 |[],k,_,_=>by simp
 | a::r,k,h,hk=>by
   obtain ⟨h1,h2⟩:=List.nodup_cons.mp h
   show (a::(r++[k])).Nodup
   refine List.nodup_cons.mpr ⟨fun m=>?_,nd_snoc h2 fun m=>hk (List.mem_cons.mpr (Or.inr m))⟩
   rcases List.mem_append.mp m with q|q
   ·exact h1 q
   ·exact hk (List.mem_cons.mpr (Or.inl (List.mem_singleton.mp q).symm))
end
theorem closure_ok {env:Env} (scope:Scope) (h:∀ y∈scope.names,y.2=.free->∃ c,env.cells.lookup y.1=some c) :
 ∃ cl,closureFor scope env=pure cl/\(∀ x c,cl.lookup x=some c->env.cells.lookup x=some c)/\∀ x,(x,NameKind.free)∈scope.names->∃ c,cl.lookup x=some c:=by
 have go:∀ (names:List (Str×NameKind)) (acc:List (Str×Addr)),(∀ y∈names,y.2=.free->∃ c,env.cells.lookup y.1=some c)->(∀ x c,acc.lookup x=some c->env.cells.lookup x=some c)->
  ∃ cl,(forIn names acc fun x cs=>(match x with
    |(name,kind)=>if kind == NameKind.free then (do let c ← cellOf env name;pure (ForInStep.yield ((name,c)::cs))) else pure (ForInStep.yield cs):Sem (ForInStep (List (Str×Addr)))))=pure cl/\
    (∀ x c,cl.lookup x=some c->env.cells.lookup x=some c)/\(∀ x,(x,NameKind.free)∈names∨(∃ c,acc.lookup x=some c)->∃ c,cl.lookup x=some c):=by
  intro names
  induction names with
  |nil=>intro acc _ ha;exact ⟨acc,rfl,ha,fun x z=>z.elim (fun q=>nomatch q) id⟩
  | cons y r ih=>
    intro acc hy ha
    obtain ⟨n,k⟩:=y
    by_cases hk:k=.free
    ·subst hk
     obtain ⟨c,hc⟩:=hy (n,.free) List.mem_cons_self rfl
     obtain ⟨cl,e,h1,h2⟩:=ih ((n,c)::acc) (fun z hz=>hy z (List.mem_cons_of_mem _ hz)) (fun x c' hx=>by
      rw [List.lookup_cons] at hx
      by_cases q:x == n
      ·rw [q] at hx
       cases hx
       rw [beq_iff_eq.mp q];exact hc
      ·rw [Bool.not_eq_true] at q
       rw [q] at hx
       exact ha x c' hx)
     refine ⟨cl,?_,h1,fun x z=>h2 x ?_⟩
     ·rw [List.forIn_cons]
      simp only [beq_self_eq_true,if_true,cellOf,hc]
      exact e
     ·have aux:∀ x,(∃ c',acc.lookup x=some c')->∃ c',((n,c)::acc).lookup x=some c':=fun x ⟨c',z⟩=>by
       rw [List.lookup_cons]
       by_cases q:x == n
       ·rw [q];exact ⟨_,rfl⟩
       ·rw [Bool.not_eq_true] at q
        rw [q];exact ⟨c',z⟩
      rcases z with z|z
      ·rcases List.mem_cons.mp z with z|z
       ·cases z
        exact .inr ⟨c,by rw [List.lookup_cons,beq_self_eq_true]⟩
       ·exact .inl z
      ·exact .inr (aux x z)
    ·have hb:(k == NameKind.free)=false:=by simpa using hk
     obtain ⟨cl,e,h1,h2⟩:=ih acc (fun z hz=>hy z (List.mem_cons_of_mem _ hz)) ha
     refine ⟨cl,?_,h1,fun x z=>h2 x ?_⟩
     ·rw [List.forIn_cons]
      simp only [hb,Bool.false_eq_true,if_false]
      exact e
     ·rcases z with z|z
      ·rcases List.mem_cons.mp z with z|z
       ·cases z
        exact absurd rfl hk
       ·exact .inl z
      ·exact .inr z
 obtain ⟨cl,e,h1,h2⟩:=go scope.names [] h (fun x c z=>by simp at z)
 refine ⟨cl,?_,h1,fun x z=>h2 x (.inl z)⟩
 unfold closureFor
 exact (congrArg (fun (m:Sem (List (Str×Addr)))=>m >>= fun cs=>pure cs) e).trans rfl
def cxComp (X:Cx) (scope:Scope) (N':List Str) (cl:List (Str×Addr)) (C:Addr) (s₀:Shared) (H₀:Hp) (ex:List Addr):Cx where
 prog:=X.prog
 w:=X.w
 K:=X.K
 mg:=X.mg
 base:=X.base
 A:=X.A
 N:=N'
 s₀:=s₀
 H₀:=H₀
 env:=compEnvC scope cl C X.env
 outer:=X.stack
 stack:=X.stack
 ex:=ex
 fn:=fun _=>false
 calm:=X.calm
 pn:=[]
 xe:=fun _ _=>False
def compSt (k:Nat) (js:List Nat) (σ:St):St:=List.replicate k none++js.map fun j=>(σ[j]?).join
theorem compSt_len (k:Nat) (js:List Nat) (σ:St):(compSt k js σ).length=k+js.length:=by simp [compSt]
structure CompScope (X:Cx) (scope:Scope) (own:List Str) (js:List Nat) (N':List Str):Prop where
 kind:scope.kind=.function
 nocell:∀ y∈scope.names,y.2≠.cell
 names:∀ y∈scope.names,y.2=.local->scope.names.lookup y.1=some .local
 free:∀ y∈scope.names,y.2=.free->X.env.kindOf y.1=some .cell∨X.env.kindOf y.1=some .free
 nm:N'=own++js.map fun j=>X.N.getD j Str.empty
 fr:∀ j∈js,j<X.N.length/\(X.N.getD j Str.empty,NameKind.free)∈scope.names/\∀ k,(X.N.getD j Str.empty,k)∈scope.names->k=.free
theorem lookup_mem_free {names:List (Str×NameKind)} {x:Str} (h:(x,NameKind.free)∈names) (u:∀ k,(x,k)∈names->k=.free):names.lookup x=some .free:=by
 induction names with
 |nil=>cases h
 | cons y r ih=>
   obtain ⟨n,k⟩:=y
   rw [List.lookup_cons]
   by_cases q:x == n
   ·rw [q]
    have e:x=n:=beq_iff_eq.mp q
    subst e
    rw [u k List.mem_cons_self]
   ·rw [Bool.not_eq_true] at q
    rw [q]
    refine ih ?_ fun k hk=>u k (List.mem_cons_of_mem _ hk)
    rcases List.mem_cons.mp h with z|z
    ·cases z
     rw [beq_self_eq_true] at q;cases q
    ·exact z
theorem relabel_mem {scope:Scope} {env:Env} {x:Str} {k:NameKind} (h:(x,k)∈(relabel scope env).names) (hk:k=.cell∨k=.free) (hc:∀ y∈scope.names,y.2≠.cell):(x,NameKind.free)∈scope.names:=by
 unfold relabel at h
 obtain ⟨⟨n,k'⟩,hm,e⟩:=List.mem_map.mp h
 dsimp only at e
 by_cases q:(k' == NameKind.free && env.scope.kind == .function && env.kindOf n == some .cell)=true
 ·rw [if_pos q] at e
  cases e
  rw [Bool.and_eq_true,Bool.and_eq_true] at q
  have:k'=.free:=by simpa using q.1.1
  rw [← this];exact hm
 ·rw [if_neg q] at e
  cases e
  rcases hk with z|z
  ·exact absurd z (hc _ hm)
  ·rw [← z];exact hm
theorem lookup_relabel_free {env:Env} {x:Str}:∀ {names:List (Str×NameKind)},names.lookup x=some .free->
 (names.map fun (n,k)=>if (k == NameKind.free && env.scope.kind == .function && env.kindOf n == some .cell) then (n,NameKind.cell) else (n,k)).lookup x=some .cell∨
 (names.map fun (n,k)=>if (k == NameKind.free && env.scope.kind == .function && env.kindOf n == some .cell) then (n,NameKind.cell) else (n,k)).lookup x=some .free
 |[],h=>by simp at h
 | (n,k)::r,h=>by
   have ih:=@lookup_relabel_free env x r
   rw [List.lookup_cons] at h
   rw [List.map_cons]
   dsimp only
   by_cases q:x == n
   ·rw [q] at h
    cases h
    by_cases c:(NameKind.free == NameKind.free && env.scope.kind == .function && env.kindOf n == some .cell)=true
    ·rw [if_pos c,List.lookup_cons,q];exact .inl rfl
    ·rw [if_neg c,List.lookup_cons,q];exact .inr rfl
   ·rw [Bool.not_eq_true] at q
    rw [q] at h
    by_cases c:(k == NameKind.free && env.scope.kind == .function && env.kindOf n == some .cell)=true
    ·rw [if_pos c,List.lookup_cons,q];exact ih h
    ·rw [if_neg c,List.lookup_cons,q];exact ih h
section
variable {X:Cx} {pins:List (Addr×Obj)} {σ:St} {H:Hp} {s:Shared}
theorem Inv.comp {scope:Scope} {own:List Str} {js:List Nat} {N':List Str} {cl:List (Str×Addr)} {C:Addr} {h₁:Heap} {tk:Nat} {fp:List Addr} {m:Str->Option Value} (S:CompScope X scope own js N') (I:Inv X pins σ H s)
 (hc1:∀ x c,cl.lookup x=some c->X.env.cells.lookup x=some c) (hc2:∀ x,(x,NameKind.free)∈scope.names->∃ c,cl.lookup x=some c) (hC:s.heap.objs.size≤C) (hns:h₁.Ns C m) (hk:∀ b o,s.heap.get? b=some o->h₁.get? b=some o)
 (hf:∀ b∈fp,FpOk X pins H b/\b<s.heap.objs.size) (hHC:H C=none) (hfree:∀ b o,s.heap.get? b=some o->b≠C) :
 Inv (cxComp X scope N' cl C s H fp) [] (compSt own.length js σ) H { s with heap:=h₁,toks:=tk }:=by
 have ltx:∀ b o,X.s₀.heap.get? b=some o->b∉X.ex->b∉fp:=fun b o e hx hb=>by
  rcases (hf b hb).1.2.2.2.1 with z|z
  ·exact hx z
  ·exact absurd (Nat.lt_of_lt_of_le (Heap.lt_size e) z) (Nat.lt_irrefl _)
 refine ⟨⟨I.ok.mod,S.kind,I.ok.glob,I.ok.blt,hC,fun x y c h1 h2=>I.ok.inj x y c (hc1 x c h1) (hc1 y c h2),fun x hx=>?_,fun x c z=>(nomatch z),I.ok.hd,I.ok.frames,.inl rfl,fun b hb=>⟨Nat.ne_of_lt (Nat.lt_of_lt_of_le (hf b hb).2 hC),fun x c e=>(hf b hb).1.2.2.2.2.1 x c (hc1 x c e)⟩,I.bs,Nat.le_trans I.ok.bsz I.sz,fun b o e=>ltx b o (I.ok.bs b o e).1 (I.ok.noex b o e),fun b hb z=>?_,I.stack,I.stkFree⟩,
  rfl,I.bare,Un.kept hk,⟨m,hns,fun i x v e1 e2 e3=>?_⟩,fun x c e=>?_,hHC,fun x c e=>I.freeC x c (hc1 x c e),fun p hp=>absurd (show p∈([]:List (Addr×Obj)) from hp) (by simp),I.hok.kept hk,?_⟩
 ·have hx':(relabel scope X.env).names.lookup x=some .cell∨(relabel scope X.env).names.lookup x=some .free:=hx
  rcases hx' with z|z
  ·exact hc2 x (relabel_mem (PySem.mem_of_lookup z) (.inl rfl) S.nocell)
  ·exact hc2 x (relabel_mem (PySem.mem_of_lookup z) (.inr rfl) S.nocell)
 ·obtain ⟨_,f1,f2,_⟩:=(hf b hb).1
  rcases List.mem_cons.mp (I.stkSub b z) with q|q
  ·exact f1 q
  ·exact f2 q
 ·
  unfold compSt at e2
  by_cases hi:i<own.length
  ·rw [List.getElem?_append_left (by simpa using hi),List.getElem?_replicate] at e2
   split at e2 <;> cases e2
  ·rw [List.getElem?_append_right (by simpa using hi),List.length_replicate,List.getElem?_map] at e2
   cases ej:js[i-own.length]? with
   |none=>rw [ej] at e2;cases e2
   | some j=>
     rw [ej] at e2
     have e2':(σ[j]?).join=some v:=by simpa using e2
     have hσ:σ[j]?=some (some v):=by
      cases q:σ[j]? with
      |none=>rw [q] at e2';cases e2'
      |some o=>rw [q] at e2';exact congrArg some e2'
     have hj:=S.fr j (List.mem_of_getElem? ej)
     have hx:x=X.N.getD j Str.empty:=by
      have e1':N'[i]?=some x:=e1
      rw [S.nm,List.getElem?_append_right (by omega),List.getElem?_map,ej] at e1'
      exact (Option.some.inj e1').symm
     have hN:X.N[j]?=some x:=by
      rw [hx,List.getD_eq_getElem?_getD,List.getElem?_eq_getElem hj.1];rfl
     have hfr:scope.names.lookup x=some .free:=by rw [hx];exact lookup_mem_free hj.2.1 hj.2.2
     have hkx:=S.free (x,.free) (by rw [hx];exact hj.2.1) rfl
     have hvis:Vis X.env.scope x:=hkx.elim (fun z=>.inr (.inl z)) fun z=>.inr (.inr z)
     obtain ⟨mX,hnX,hlX⟩:=I.loc
     obtain ⟨u,r,l⟩:=hlX j x v hN hσ hvis
     refine ⟨u,r,.inr ⟨lookup_relabel_free hfr,?_⟩⟩
     rcases l with ⟨z,_⟩|⟨_,c,hc,hcell⟩
     ·rcases hkx with q|q
      ·have:=q.symm.trans z;cases this
      ·have:=q.symm.trans z;cases this
     ·obtain ⟨c',hc'⟩:=hc2 x (by rw [hx];exact hj.2.1)
      have:c'=c:=Option.some.inj ((hc1 x c' hc').symm.trans hc)
      subst this
      obtain ⟨o,ho,hd⟩:=hcell
      exact ⟨c',hc',o,hk _ _ ho,hd⟩
 ·obtain ⟨v,o,ho,hd⟩:=I.cell x c (hc1 x c e)
  exact ⟨v,o,hk _ _ ho,hd⟩
 ·rw [compSt_len]
  show _=N'.length
  rw [S.nm];simp
end
def PIfs (Y:Cx) (ifs:List Expr) (t:TT):Prop:=
 ∀ (pins:List (Addr×Obj)) (s:Shared) (σ:St) (H:Hp) (Q:Bool->Hp->Prop),Inv Y pins σ H s->t σ H Q->
   wpAny (model Y.prog Y.w) Y.A (forIn ifs true fun c r=>if r=true then do let ok ← isTrue c Y.env (eval c Y.env);pure (ForInStep.yield ok) else pure (ForInStep.yield r)) (TP Y pins σ Q) Y.xe s
def tYes:TT:=fun _ H Q=>Q true H
theorem pifs_nil {Y:Cx}:PIfs Y [] tYes:=fun _ _ _ H _ I h=>wpAny_tests_nil ⟨H,I,h⟩
abbrev accObj (us:List Value) (k:Nat):Obj:={ cls:=.type "list",data:=.seq us.toArray k }
def CTurn (J:It) (g:TG) (tt:TT) (te:TE) (F:List V->Hp->Prop) (W:Nat->Nat->List V->St->Hp->Prop):Prop:=
 ∀ i m ys σ H,W i m ys σ H->(J.stop i H/\F ys H)∨(J.go i H/\ys.length<sizeLine/\∀ x H1,J.yld i H x H1->g x σ H1 fun σ2 H2=>tt σ2 H2 fun b H3=>
   if b=true then te σ2 H3 fun y H4=>∃ m',m'<m/\W (i+1) m' (ys++[y]) σ2 H4 else ∃ m',m'<m/\W (i+1) m' ys σ2 H3)
theorem comp_loop {X:Cx} {scope:Scope} {N':List Str} {cl:List (Str×Addr)} {C acc it:Addr} {s₂:Shared} {H₂:Hp} {fp:List Addr} {tn:Nat->Heap->Prop} {J:It} {g:TG} {tt:TT} {te:TE} {F:List V->Hp->Prop}
 {elt tg iter:Expr} {ifs:List Expr} {pos:Pos} {R:Result->Shared->Prop} (W:Nat->Nat->List V->St->Hp->Prop) (turn:CTurn J g tt te F W) (T:Turn X.prog X.w X.K tg J fp it tn)
 (hg:PG (cxComp X scope N' cl C s₂ H₂ fp) tg g) (hc:PIfs (cxComp X scope N' cl C s₂ H₂ fp) ifs tt) (he:PE (cxComp X scope N' cl C s₂ H₂ fp) elt te) (hcalm:X.calm=true)
 (hfp:∀ b∈fp,b≠C/\b∉frs X.stack/\(∀ x c,cl.lookup x=some c->c≠b)/\b≠acc) (hacc:acc≠C/\acc∉frs X.stack/\(∀ x c,cl.lookup x=some c->c≠acc)/\s₂.heap.objs.size≤acc)
 (hR:∀ s' σ' H' ys us k,Inv (cxComp X scope N' cl C s₂ H₂ fp) [(acc,accObj us k)] σ' H' s'->Vals ys us->F ys H'->R (.ok .next) s')
 {s:Shared} {σ:St} {H:Hp} {m:Nat} (I:Inv (cxComp X scope N' cl C s₂ H₂ fp) [(acc,accObj [] 0)] σ H s) (st:tn 0 s.heap) (fr:∀ b∈fp,H b=none) (w0:W 0 m [] σ H) :
 codeAny (model X.prog X.w) X.A (.compLoop (.ListComp elt [⟨tg,iter,ifs,0⟩] scope pos) 0 (.ref it) (.ref acc) (compEnvC scope cl C X.env)) R s:=by
 refine codeAny_loop rfl (fun n s'=>∃ i ys us k σ' H',Vals ys us/\Inv (cxComp X scope N' cl C s₂ H₂ fp) [(acc,accObj us k)] σ' H' s'/\tn i s'.heap/\(∀ b∈fp,H' b=none)/\W i n ys σ' H') (fun n s3 hI=>?_) m ⟨0,[],[],0,σ,H,.nil,I,st,fr,w0⟩
 obtain ⟨i,ys,us,k,σ3,H3,rv,I3,st3,fr3,w3⟩:=hI
 show wpAny _ X.A ((compTurn (.ListComp elt [⟨tg,iter,ifs,0⟩] scope pos) 0 (.ref it) (.ref acc) (compEnvC scope cl C X.env)).onRaise (fun x=>do noteFrame x (compEnvC scope cl C X.env);theTreesLotGoes x)) _ _ s3
 refine wpAny_noted ?_
 rw [compTurn_list]
 have fpk:∀ {pins:List (Addr×Obj)} {H':Hp},(∀ p∈pins,p.1=acc∨p.1∈([]:List Addr))->(∀ b∈fp,H' b=none)->∀ b∈fp,FpOk (cxComp X scope N' cl C s₂ H₂ fp) pins H' b:=fun hp hn b hb=>
  ⟨hn b hb,(hfp b hb).1,(hfp b hb).2.1,.inl hb,(hfp b hb).2.2.1,fun p hp'=>by
   have hp'':p∈([]:List (Addr×Obj))++_:=hp'
   rcases hp p (by simpa using hp'') with z|z
   ·rw [z];exact Ne.symm (hfp b hb).2.2.2
   ·exact (nomatch z)⟩
 have fp1:=fpk (pins:=[(acc,accObj us k)]) (fun p hp=>.inl (by simp at hp;rw [hp])) fr3
 refine wpAny_bind (wpAny_standAt (wpAny_bind ?_))
 rcases turn i n ys σ3 H3 w3 with ⟨stop,qn⟩|⟨go,hz,step⟩
 ·refine wpAny_mono (T.done (cxComp X scope N' cl C s₂ H₂ fp) rfl rfl rfl hcalm i _ s3 σ3 H3 (fun _ _=>False) I3 fp1 st3 stop) (fun r s4 ⟨hr,I4⟩=>?_) (fun _ _ z=>z.elim)
  subst hr
  exact wpAny_pure (hR s4 σ3 H3 ys us k I4 rv qn)
 ·refine wpAny_mono (T.item (cxComp X scope N' cl C s₂ H₂ fp) rfl rfl rfl hcalm i _ s3 σ3 H3 (fun _ _=>False) I3 fp1 st3 go) (fun r s4 ⟨u,hr,h4⟩=>?_) (fun _ _ z=>z.elim)
  subst hr
  refine wpAny_bind (wpAny_mono h4 (fun _ s5 ⟨x,H5,I5,r5,y5,st5,fr5⟩=>?_) (fun _ _ z=>z.elim))
  have fp5:=fpk (pins:=[(acc,accObj us k)]) (fun p hp=>.inl (by simp at hp;rw [hp])) fr5
  have I5':=I5.pinned fp5 (T.obj _ _ st5)
  refine wpAny_bind (wpAny_mono (hg _ s5 σ3 H5 x u _ I5' r5 (step x H5 y5)) (fun _ s6 ⟨σ6,H6,I6,q6⟩=>?_) (fun _ _ z=>z.elim))
  refine wpAny_bind (wpAny_mono (hc _ s6 σ6 H6 _ I6 q6) (fun ok s7 ⟨H7,I7,q7⟩=>?_) (fun _ _ z=>z.elim))
  have again:∀ {s8:Shared} {σ8:St} {H8:Hp} {us8:List Value} {k8:Nat} {ys8:List V},Inv (cxComp X scope N' cl C s₂ H₂ fp) ([(acc,accObj us k)]++pinsAt fp s5.heap) σ8 H8 s8->tn (i+1) s8.heap/\∀ b∈fp,H8 b=none:=fun {s8 σ8 H8 us8 k8 ys8} I8=>
   ⟨T.keep _ _ _ st5 fun b hb o e=>(I8.pin (b,o) (List.mem_append_right _ (List.mem_append_right _ (mem_pinsAt hb e)))).1,fun b hb=>by
    obtain ⟨o,e,d⟩:=T.obj _ _ st5 b hb
    exact (I8.pin (b,o) (List.mem_append_right _ (List.mem_append_right _ (mem_pinsAt hb e)))).2.1⟩
  cases ok with
  | false=>
    rw [if_neg Bool.false_ne_true] at q7
    obtain ⟨m',hm,w7⟩:=q7
    obtain ⟨t1,t2⟩:=again (us8:=us) (k8:=k) (ys8:=ys) I7
    exact wpAny_pure ⟨rfl,m',hm,i+1,ys,us,k,σ6,H7,rv,I7.unpinned,t1,t2,w7⟩
  | true=>
    rw [if_pos rfl] at q7
    refine wpAny_bind (wpAny_bind (wpAny_mono (he _ s7 σ6 H7 _ I7 q7) (fun y s8 ⟨yv,H8,I8,r8,m',hm,w8⟩=>?_) (fun _ _ z=>z.elim)))
    obtain ⟨t1,t2⟩:=again (us8:=us) (k8:=k) (ys8:=ys) I8
    obtain ⟨e8,n8,l8,f8,d8⟩:=I8.pin (acc,accObj us k) (List.mem_append_right _ (List.mem_append_left _ List.mem_cons_self))
    have hlen:=rv.length
    have hz':us.toArray.size≤sizeLine:=by rw [List.size_toArray];omega
    refine wpAny_bind (call_meets PySem.F.slot_list_append ⟨_,e8,rfl⟩ PySem.F.entry_list_append (PySem.F.args_list_append_2 _ _) (PySem.list_append acc us.toArray k y hz') ⟨e8,?_⟩)
    have q:=PySem.IsL.update e8 (fun z=>z.push y)
    have I9:Inv (cxComp X scope N' cl C s₂ H₂ fp) [] σ6 H8 s8:=I8.pins_of fun p hp=>(nomatch hp)
    have I10:=I9.turned (t':=s8.toks) (it:=acc) (h':=s8.heap.update acc (Obj.mapSeq fun z=>z.push y)) (fun b o hb e=>(Heap.get?_update_other s8.heap _ (Ne.symm hb)).trans e) n8 hacc.1 (.inr hacc.2.2.2) hacc.2.2.1 (fun p hp=>(nomatch hp))
    have e':(us.toArray.push y)=(us++[y]).toArray:=by simp
    rw [e'] at q
    obtain ⟨k9,ek⟩:∃ k9,k9=(if ((us++[y]).toArray.size == us.toArray.size)=true then k else k+1):=⟨_,rfl⟩
    rw [← ek] at q
    have I11:=I10.pins_of (pins':=[(acc,accObj (us++[y]) k9)]) fun p hp=>by
     obtain rfl:p=(acc,accObj (us++[y]) k9):=by simpa using hp
     exact ⟨q,n8,hacc.1,hacc.2.1,fun v z=>by cases z⟩
    refine wpAny_pure (wpAny_pure ⟨rfl,m',hm,i+1,ys++[yv],us++[y],k9,σ6,H8,rv.append (.cons r8 .nil),I11,T.keep _ _ _ t1 fun b hb o e=>?_,t2,w8⟩)
    exact (Heap.get?_update_other s8.heap _ (hfp b hb).2.2.2.symm).trans e
def tComp (wi:TI) (g:TG) (tt:TT) (te:TE) (k:Nat) (js:List Nat):TE:=fun σ H Q=>wi σ H fun J H1=>∃ W:Nat->Nat->List V->St->Hp->Prop,(∃ m,W 0 m [] (compSt k js σ) H1)/\
 CTurn J g tt te (fun ys H2=>ys.length≤sizeLine/\∀ p,H2 p=none->Q (.ref p) (upd H2 p (.lst ys))) W
section
variable {X:Cx} {scope:Scope} {own:List Str} {js:List Nat} {N':List Str} {wi:TI} {g:TG} {tt:TT} {te:TE} {elt tg iter:Expr} {ifs:List Expr} {pos:Pos}
theorem comp_run {pins:List (Addr×Obj)} {σ:St} {H:Hp} {s:Shared} {it:Addr} {fp:List Addr} {tn:Nat->Heap->Prop} {J:It} {cl:List (Str×Addr)} {F:List V->Hp->Prop} {E:Value->Shared->Prop} {RR:Value->Addr->Result->Shared->Prop}
 (S:CompScope X scope own js N') (hcalm:X.calm=true) (hg:∀ cl C s₀ H₀ ex,PG (cxComp X scope N' cl C s₀ H₀ ex) tg g) (hc:∀ cl C s₀ H₀ ex,PIfs (cxComp X scope N' cl C s₀ H₀ ex) ifs tt) (he:∀ cl C s₀ H₀ ex,PE (cxComp X scope N' cl C s₀ H₀ ex) elt te)
 (hc1:∀ x c,cl.lookup x=some c->X.env.cells.lookup x=some c) (hc2:∀ x,(x,NameKind.free)∈scope.names->∃ c,cl.lookup x=some c)
 (I:Inv X pins σ H s) (T:Turn X.prog X.w X.K tg J fp it tn) (st:tn 0 s.heap) (hf:∀ b∈fp,FpOk X pins H b) (W:Nat->Nat->List V->St->Hp->Prop) {m0:Nat} (w0:W 0 m0 [] (compSt own.length js σ) H) (turn:CTurn J g tt te F W)
 (hF:∀ ys H',F ys H'->ys.length≤sizeLine)
 (fin:∀ acc C H' ys s' m,Inv X pins σ (upd H' acc (.lst ys)) s'->H' acc=none->s'.heap.Ns C m->(upd H' acc (.lst ys)) C=none->C≠X.env.locals->X.s₀.heap.objs.size≤C->(∀ x c,X.env.cells.lookup x=some c->c≠C)->(∀ p∈X.pn++pins,p.1≠C)->F ys H'->RR (.ref acc) C (.ok .next) s') :
 wpAny (model X.prog X.w) X.A (newList []) (fun acc s₃=>wpAny (model X.prog X.w) X.A (newFunctionEnv scope X.env.globals cl [] X.env.qual none .none (some X.env)) (fun cenv s₄=>
  codeAny (model X.prog X.w) X.A (.compStart (.ListComp elt [⟨tg,iter,ifs,0⟩] scope pos) 0 (.ref it) acc { cenv with scope:=relabel scope X.env }) (RR acc cenv.locals) s₄) E s₃) E s:=by
 refine wpAny_newObj_type (wpAny_newFunctionEnv S.nocell (by intro y hy;simp at hy) (fun h₁ hns₁ hsb₁=>?_) S.kind)
 dsimp only at hns₁ hsb₁ ⊢
 generalize hH2:s.heap.push { cls:=.type "list",dict:=none,data:=.seq ([]:List Value).toArray }=H2 at hns₁ hsb₁ ⊢
 have hC:H2.objs.size=s.heap.objs.size+1:=by rw [← hH2,Heap.size_push]
 have hDC:s.heap.objs.size≠H2.objs.size:=by rw [hC];exact Nat.ne_of_lt (Nat.lt_succ_self _)
 have hCle:s.heap.objs.size≤H2.objs.size:=by rw [hC];exact Nat.le_succ _
 have below:∀ b,b<s.heap.objs.size->b≠H2.objs.size/\b≠s.heap.objs.size:=fun b hb=>⟨by rw [hC];exact Nat.ne_of_lt (Nat.lt_succ_of_lt hb),Nat.ne_of_lt hb⟩
 have old:∀ b o,s.heap.get? b=some o->h₁.get? b=some o:=fun b o e=>hsb₁.extBut b o (below b (Heap.lt_size e)).1 (Heap.get?_push_of_some _ (hH2 ▸ Heap.get?_push_of_some _ e))
 have hacc:h₁.get? s.heap.objs.size=some (accObj [] 0):=hsb₁.extBut _ _ hDC (Heap.get?_push_of_some _ (hH2 ▸ Heap.get?_push_size _ rfl))
 generalize hCn:H2.objs.size=C at *
 generalize hAn:s.heap.objs.size=acc at *
 have cellLt:∀ x c,X.env.cells.lookup x=some c->c<acc:=fun x c e=>by
  obtain ⟨v,q⟩:=I.cell x c e
  rw [← hAn];exact q.lt
 have pinLt:∀ p∈X.pn++pins,p.1<acc:=fun p hp=>by rw [← hAn];exact Heap.lt_size (I.pin p hp).1
 have stkLt:∀ b∈frs X.stack,b<acc:=fun b hb=>by
  obtain ⟨_,o,ho,_⟩:=I.stack.mem hb
  rw [← hAn];exact Heap.lt_size ho
 have fpLt:∀ b∈fp,b<acc:=fun b hb=>by
  obtain ⟨o,e,_⟩:=T.obj _ _ st b hb
  rw [← hAn];exact Heap.lt_size e
 have hHC:H C=none:=I.hok.fresh (by rw [hAn];exact hCle)
 have hHA:H acc=none:=I.hok.fresh (by rw [hAn];exact Nat.le_refl _)
 have I1:Inv (cxComp X scope N' cl C s H fp) [] (compSt own.length js σ) H { s with heap:=h₁,toks:=s.toks+([]:List (Str×Value)).length }:=
  Inv.comp S I hc1 hc2 (by rw [hAn];exact hCle) hns₁ old (fun b hb=>⟨hf b hb,by rw [hAn];exact fpLt b hb⟩) hHC fun b o e=>(below b (by rw [← hAn];exact Heap.lt_size e)).1
 have I2:Inv (cxComp X scope N' cl C s H fp) [(acc,accObj [] 0)] (compSt own.length js σ) H { s with heap:=h₁,toks:=s.toks+([]:List (Str×Value)).length }:=I1.pins_of fun p hp=>by
  obtain rfl:p=(acc,accObj [] 0):=by simpa using hp
  exact ⟨hacc,hHA,hDC,fun z=>absurd (stkLt acc z) (Nat.lt_irrefl _),fun v z=>by cases z⟩
 have st1:tn 0 h₁:=T.keep _ _ _ st fun b hb o e=>old b o e
 have loop:∀ s₃:Shared,s₃={ s with heap:=h₁,toks:=s.toks+([]:List (Str×Value)).length }->
  codeAny (model X.prog X.w) X.A (.compLoop (.ListComp elt [⟨tg,iter,ifs,0⟩] scope pos) 0 (.ref it) (.ref acc) (compEnvC scope cl C X.env)) (RR (.ref acc) C) s₃:=by
  rintro s₃ rfl
  refine comp_loop W turn T (hg _ _ _ _ _) (hc _ _ _ _ _) (he _ _ _ _ _) hcalm
   (fun b hb=>⟨(below b (fpLt b hb)).1,fun z=>?_,fun x c e z=>(hf b hb).2.2.2.2.1 x c (hc1 x c e) z,(below b (fpLt b hb)).2⟩)
   ⟨hDC,fun z=>absurd (stkLt acc z) (Nat.lt_irrefl _),fun x c e z=>absurd (cellLt x c (hc1 x c e)) (by rw [z];exact Nat.lt_irrefl _),by rw [hAn];exact Nat.le_refl _⟩ ?_ I2 st1 (fun b hb=>(hf b hb).1) w0
  ·rcases List.mem_cons.mp (I.stkSub b z) with q|q
   ·exact (hf b hb).2.1 q
   ·exact (hf b hb).2.2.1 q
  ·intro s' σ' H' ys us k J' rv q
   obtain ⟨e',n',l',f',d'⟩:=J'.pin (acc,accObj us k) (List.mem_append_right _ List.mem_cons_self)
   have n'':H' acc=none:=n'
   obtain ⟨m,hm,_⟩:=J'.loc
   have oldLt:∀ b o,s.heap.get? b=some o->b<acc:=fun b o e=>by rw [← hAn];exact Heap.lt_size e
   have neA:∀ b o,s.heap.get? b=some o->b≠acc:=fun b o e=>Nat.ne_of_lt (oldLt b o e)
   have un:Un (frs X.stack) fp H (upd H' acc (.lst ys)) s.heap s'.heap:=⟨J'.base.keep,J'.base.slot,fun b o e n hx=>by rw [upd_ne (neA b o e)];exact J'.base.free b o e n hx,J'.base.there,
    fun b xs e=>by
     have z:=J'.base.tups b xs e
     rw [upd_ne (ne_of_none z n'')];exact z,
    fun b o u e=>by
     have z:=J'.base.frzs b o u e
     rw [upd_ne (ne_of_none z n'')];exact z,
    fun b ps e=>by
     obtain ⟨more,z⟩:=J'.base.tbls b ps e
     exact ⟨more,by rw [upd_ne (ne_of_none z n'')];exact z⟩⟩
   have hok:HOk X.prog X.w (upd H' acc (.lst ys)) s'.heap:=fun b u e=>by
    by_cases hb:b=acc
    ·subst hb
     rw [upd_same] at e;cases e
     exact ⟨hF _ _ q,us,k,rv,e'⟩
    ·rw [upd_ne hb] at e
     exact (J'.hok b u e).stay (fun c v _ z=>z) (fun c z=>by rw [upd_ne (ne_of_none z n'')];exact z) fun c xs z=>by rw [upd_ne (ne_of_none z n'')];exact z
   have IX:Inv X pins σ (upd H' acc (.lst ys)) s':=I.call' J'.os un hok J'.bare fun b hb=>⟨(hf b hb).2.2.2.1,(hf b hb).2.1,(hf b hb).2.2.2.2.1,(hf b hb).2.2.2.2.2⟩
   refine fin acc C H' ys s' m IX n'' hm ?_ ?_ ?_ ?_ ?_ q
   ·rw [upd_ne (Ne.symm hDC)];exact J'.free
   ·exact Nat.ne_of_gt (Nat.lt_of_lt_of_le I.lt (by rw [hAn];exact hCle))
   ·exact Nat.le_trans I.sz (by rw [hAn];exact hCle)
   ·exact fun x c e z=>absurd (Nat.lt_of_lt_of_le (cellLt x c e) hCle) (by rw [z];exact Nat.lt_irrefl _)
   ·exact fun p hp z=>absurd (Nat.lt_of_lt_of_le (pinLt p hp) hCle) (by rw [z];exact Nat.lt_irrefl _)
 exact codeAny_compStart_list (loop _ rfl) (T.self _ 0 _ _ _ st1 (loop _ rfl))
theorem pe_comp (S:CompScope X scope own js N') (hcalm:X.calm=true) (hi:PI X tg iter wi) (hg:∀ cl C s₀ H₀ ex,PG (cxComp X scope N' cl C s₀ H₀ ex) tg g) (hc:∀ cl C s₀ H₀ ex,PIfs (cxComp X scope N' cl C s₀ H₀ ex) ifs tt)
 (he:∀ cl C s₀ H₀ ex,PE (cxComp X scope N' cl C s₀ H₀ ex) elt te) (hs:∀ x,foldedSetIterable iter X.env x=pure x:=by intro _;rfl):PE X (.ListComp elt [⟨tg,iter,ifs,0⟩] scope pos) (tComp wi g tt te own.length js):=by
 intro pins s σ H Q I h
 obtain ⟨cl,hcl,hc1,hc2⟩:=closure_ok (env:=X.env) scope fun y hy hk=>I.ok.has y.1 (S.free y hy hk)
 rw [eval_ListComp]
 refine wpAny_comprehension_free (use:=none) rfl hs hcl S.kind S.names (thn (hi pins s σ H _ I h) fun v s1 h1=>thn h1 fun itv s2 h2=>?_)
 obtain ⟨it,fp,tn,J,H2,e,I2,T,st2,f2,W,⟨m0,w0⟩,turn⟩:=h2
 subst e
 refine comp_run (RR:=fun acc C=>compPost (model X.prog X.w) X.A X.xe none (EP X pins σ Q) acc C) S hcalm hg hc he hc1 hc2 I2 T st2 f2 W w0 turn (fun ys H' q=>q.1) ?_
 intro acc C H' ys s' m IX na hm hCn hL hz hcn hpn q
 refine ⟨m,hm,fun h' hs'=>⟨.ref acc,_,?_,rfl,q.2 acc na⟩⟩
 exact IX.turned (t':=s'.toks) (it:=C) (fun b o hb e=>(hs'.2 b hb).trans e) hCn hL (.inr hz) hcn hpn
theorem ps_setComp {i:Nat} {x:Str} {pos' spos:Pos} (S:CompScope X scope own js N') (hcalm:X.calm=true) (hN:X.N.Nodup) (hx:X.N[i]?=some x) (hk:X.env.scope.names.lookup x=some .local) (hi:PI X tg iter wi) (hg:∀ cl C s₀ H₀ ex,PG (cxComp X scope N' cl C s₀ H₀ ex) tg g) (hc:∀ cl C s₀ H₀ ex,PIfs (cxComp X scope N' cl C s₀ H₀ ex) ifs tt)
 (he:∀ cl C s₀ H₀ ex,PE (cxComp X scope N' cl C s₀ H₀ ex) elt te) (hsw:swapsWith (.ListComp elt [⟨tg,iter,ifs,0⟩] scope pos) (some (.Name x pos')) spos.line X.env=pure true:=by rfl) (hs:∀ x,foldedSetIterable iter X.env x=pure x:=by intro _;rfl) :
 PS X (.Assign [.Name x pos'] (.ListComp elt [⟨tg,iter,ifs,0⟩] scope pos) spos) (tAsg (tComp wi g tt te own.length js) (gName i)):=by
 intro pins s σ H D I h
 obtain ⟨cl,hcl,hc1,hc2⟩:=closure_ok (env:=X.env) scope fun y hy hk=>I.ok.has y.1 (S.free y hy hk)
 rw [exec_Assign_Name_used _ _ _ _ hsw]
 refine wpAny_bind (wpAny_standAt (wpAny_bind ?_))
 show wpAny _ X.A (do let _ ← comprehension (.ListComp elt [⟨tg,iter,ifs,0⟩] scope pos) scope X.env _ (newList []) false (eval iter X.env) (some (assign (.Name x pos') X.env))) _ _ s
 refine wpAny_bind (wpAny_mono (wpAny_comprehension_free (use:=some (assign (.Name x pos') X.env)) (Q:=fun _ s'=>SP X pins D .next s') rfl hs hcl S.kind S.names
  (thn (hi pins s σ H _ I h) fun v s1 h1=>thn h1 fun itv s2 h2=>?_)) (fun _ s' hq=>wpAny_pure (wpAny_pure hq)) fun _ _ e=>e)
 obtain ⟨it,fp,tn,J,H2,e,I2,T,st2,f2,W,⟨m0,w0⟩,turn⟩:=h2
 subst e
 refine comp_run (RR:=fun acc C=>compPost (model X.prog X.w) X.A X.xe (some (assign (.Name x pos') X.env)) (fun _ s'=>SP X pins D .next s') acc C) S hcalm hg hc he hc1 hc2 I2 T st2 f2 W w0 turn (fun ys H' q=>q.1) ?_
 intro acc C H' ys s' m IX na hm hCn hL hz hcn hpn q
 show wpAny _ X.A (assign (.Name x pos') X.env (.ref acc)) _ _ s'
 refine wpAny_assign_Name (store_ok2 IX hN hx (.inl hk) (v:=.ref acc) rfl (fun s'' I'' hsb=>?_) (.inr hk))
 obtain ⟨a,hsb,ha⟩:=hsb
 have haC:C≠a:=by
  rcases ha with z|z
  ·rw [z];exact hL
  ·exact fun q=>hcn x a z q.symm
 refine ⟨m,hm.sameBut hsb haC,fun h' hs'=>⟨_,_,?_,q.2 acc na⟩⟩
 exact I''.turned (t':=s''.toks) (it:=C) (fun b o hb e=>(hs'.2 b hb).trans e) hCn hL (.inr hz) hcn hpn
end
section
variable {X:Cx}
def CDivW (i j:Int):Prop:=0<j/\j<340282366920938463463374607431768211456
theorem op_fdivW:OpR X (binaryOp .FloorDiv) (rI CDivW fun i j=>.int (i / j)):=opI fun i j _ _ _ _ _ hc q=>by
 rw [← Int.fdiv_eq_ediv_of_nonneg i (Int.le_of_lt hc.1)] at q
 have h1:(0:Int)<j:=hc.1
 have h2:j<340282366920938463463374607431768211456:=hc.2
 have hb:j.natAbs<340282366920938463463374607431768211456:=by omega
 have he:(2:Nat) ^ 128=340282366920938463463374607431768211456:=by decide +kernel
 have hl:j.natAbs.log2<128:=(Nat.log2_lt (by omega)).mpr (Nat.lt_of_lt_of_eq hb he.symm)
 exact floordiv_int (by have:=hc.1;omega) q (.inl (PyProof.noPylong_of_log2 (by omega)))
theorem comp_range {lo:Int} {n:Nat} {g:TG} {te:TE} {F:List V->Hp->Prop} {σ0:St} {H0:Hp} (Pv:Nat->List V->St->Hp->Prop) (hn:n≤sizeLine) (h0:Pv 0 [] σ0 H0)
 (hs:∀ i ys σ H,i<n->ys.length=i->Pv i ys σ H->∀ N:List V->St->Hp->Prop,(∀ ys' σ' H',ys'.length=i+1->Pv (i+1) ys' σ' H'->N ys' σ' H')->g (.int (lo+i)) σ H fun σ2 H2=>te σ2 H2 fun y H3=>N (ys++[y]) σ2 H3)
 (hd:∀ ys σ H,ys.length=n->Pv n ys σ H->F ys H) :
 ∃ W:Nat->Nat->List V->St->Hp->Prop,(∃ m,W 0 m [] σ0 H0)/\CTurn (Itr lo n) g tYes te F W:=by
 refine ⟨fun i m ys σ H=>m=n-i/\i≤n/\ys.length=i/\Pv i ys σ H,⟨n,by simp,Nat.zero_le _,rfl,h0⟩,?_⟩
 rintro i m ys σ H ⟨rfl,hi,hl,p⟩
 by_cases hlt:i<n
 ·refine .inr ⟨hlt,by omega,fun x H' y=>?_⟩
  obtain ⟨e,y⟩:=y
  subst e y
  exact hs i ys σ _ hlt hl p (fun ys' σ' H'=>∃ m',m'<n-i/\m'=n-(i+1)/\i+1≤n/\ys'.length=i+1/\Pv (i+1) ys' σ' H') fun ys' σ' H' hl' q=>⟨n-(i+1),by omega,rfl,hlt,hl',q⟩
 ·have e:i=n:=by omega
  subst e
  exact .inl ⟨Nat.le_refl _,hd ys σ H hl p⟩
theorem comp_list {K:PySem.W.Frag} {a:Addr} {xs:List V} {g:TG} {te:TE} {F:List V->Hp->Prop} {σ0:St} {H0:Hp} (Pv:Nat->List V->St->Hp->Prop) (hn:xs.length≤sizeLine) (h0:Pv 0 [] σ0 H0) (hq:∀ i ys σ H,i≤xs.length->Pv i ys σ H->SqL K H a xs)
 (hs:∀ i x ys σ H,xs[i]?=some x->ys.length=i->Pv i ys σ H->∀ N:List V->St->Hp->Prop,(∀ ys' σ' H',ys'.length=i+1->Pv (i+1) ys' σ' H'->N ys' σ' H')->g x σ H fun σ2 H2=>te σ2 H2 fun y H3=>N (ys++[y]) σ2 H3)
 (hd:∀ ys σ H,ys.length=xs.length->Pv xs.length ys σ H->F ys H) :
 ∃ W:Nat->Nat->List V->St->Hp->Prop,(∃ m,W 0 m [] σ0 H0)/\CTurn (Itl K a) g tYes te F W:=by
 refine ⟨fun i m ys σ H=>m=xs.length-i/\i≤xs.length/\ys.length=i/\Pv i ys σ H,⟨xs.length,by simp,Nat.zero_le _,rfl,h0⟩,?_⟩
 rintro i m ys σ H ⟨rfl,hi,hl,p⟩
 have q:=hq i ys σ H hi p
 by_cases hlt:i<xs.length
 ·refine .inr ⟨⟨xs,xs[i],q,by simp [hlt]⟩,by omega,fun x H' y=>?_⟩
  obtain ⟨e,y⟩:=y
  subst e
  exact hs i x ys σ _ (y xs q) hl p (fun ys' σ' H'=>∃ m',m'<xs.length-i/\m'=xs.length-(i+1)/\i+1≤xs.length/\ys'.length=i+1/\Pv (i+1) ys' σ' H') fun ys' σ' H' hl' q=>⟨xs.length-(i+1),by omega,rfl,hlt,hl',q⟩
 ·have e:i=xs.length:=by omega
  subst e
  exact .inl ⟨⟨xs,q,Nat.le_refl _⟩,hd ys σ H hl p⟩
theorem comp_tup {K:PySem.W.Frag} {a:Addr} {xs:List V} {g:TG} {te:TE} {F:List V->Hp->Prop} {σ0:St} {H0:Hp} (Pv:Nat->List V->St->Hp->Prop) (hn:xs.length≤sizeLine) (h0:Pv 0 [] σ0 H0) (hq:∀ i ys σ H,i≤xs.length->Pv i ys σ H->SqT K H a xs)
 (hs:∀ i x ys σ H,xs[i]?=some x->ys.length=i->Pv i ys σ H->∀ N:List V->St->Hp->Prop,(∀ ys' σ' H',ys'.length=i+1->Pv (i+1) ys' σ' H'->N ys' σ' H')->g x σ H fun σ2 H2=>te σ2 H2 fun y H3=>N (ys++[y]) σ2 H3)
 (hd:∀ ys σ H,ys.length=xs.length->Pv xs.length ys σ H->F ys H) :
 ∃ W:Nat->Nat->List V->St->Hp->Prop,(∃ m,W 0 m [] σ0 H0)/\CTurn (Itt K a) g tYes te F W:=by
 refine ⟨fun i m ys σ H=>m=xs.length-i/\i≤xs.length/\ys.length=i/\Pv i ys σ H,⟨xs.length,by simp,Nat.zero_le _,rfl,h0⟩,?_⟩
 rintro i m ys σ H ⟨rfl,hi,hl,p⟩
 have q:=hq i ys σ H hi p
 by_cases hlt:i<xs.length
 ·refine .inr ⟨⟨xs,xs[i],q,by simp [hlt]⟩,by omega,fun x H' y=>?_⟩
  obtain ⟨e,y⟩:=y
  subst e
  exact hs i x ys σ _ (y xs q) hl p (fun ys' σ' H'=>∃ m',m'<xs.length-i/\m'=xs.length-(i+1)/\i+1≤xs.length/\ys'.length=i+1/\Pv (i+1) ys' σ' H') fun ys' σ' H' hl' q=>⟨xs.length-(i+1),by omega,rfl,hlt,hl',q⟩
 ·have e:i=xs.length:=by omega
  subst e
  exact .inl ⟨⟨xs,q,Nat.le_refl _⟩,hd ys σ H hl p⟩
structure Def (K:PySem.W.Frag) (mg:Str->Option Value) (x:Str) (st:Stmt) (ps:List Str) (f:Addr) (fd:FuncData):Prop where
 F:Fun K x x st f fd
 mg:mg x=some (.ref f)
 b:Binds K fd ps []
def But (p:Addr) (H H':Hp):Prop:=∀ b o,H b=some o->b≠p->H' b=some o
theorem But.refl {p:Addr} {H:Hp}:But p H H:=fun _ _ h _=>h
theorem But.trans {p:Addr} {H H1 H2:Hp} (a:But p H H1) (b:But p H1 H2):But p H H2:=fun c o h hc=>b c o (a c o h hc) hc
theorem But.upd {p:Addr} {H:Hp} {o:HO}:But p H (upd H p o):=fun b u h hb=>by rw [upd_ne hb];exact h
theorem But.new {p q:Addr} {H:Hp} {o:HO} (h:H q=none):But p H (L2.upd H q o):=fun b u e _=>by rw [upd_ne (ne_of_none e h)];exact e
end
theorem seq_by {t u:TS} {D:Ends} {σ:St} {H:Hp} (M:St->Hp->Prop) (h2:∀ σ' H',M σ' H'->u D σ' H') (h1:∀ N:St->Hp->Prop,(∀ σ' H',M σ' H'->N σ' H')->t { D with nx:=N } σ H):tSeq t u D σ H:=h1 (u D) h2
theorem Same.new {H:Hp} {q:Addr} {o:HO} (h:H q=none):Same H (upd H q o):=fun b u e=>by rw [upd_ne (ne_of_none e h)];exact e
theorem Same.but {H H':Hp} {p:Addr} (h:Same H H'):But p H H':=fun b o e _=>h b o e
theorem Same.tup {K:PySem.W.Frag} {H H':Hp} {a:Addr} {xs:List V} (e:Same H H') (h:SqT K H a xs):SqT K H' a xs:=by
 rcases h with (h|⟨o,h⟩)|h
 ·exact .inl (.inl (e _ _ h))
 ·exact .inl (.inr ⟨o,e _ _ h⟩)
 ·exact .inr h
theorem bt_len:bootBuiltins "len" = some (.builtin "len"):=by decide +kernel
theorem bt_list:bootBuiltins "list" = some (.type "list"):=by decide +kernel
theorem bt_tuple:bootBuiltins "tuple" = some (.type "tuple"):=by decide +kernel
theorem bt_str:bootBuiltins "str" = some (.type "str"):=by decide +kernel
theorem bt_int:bootBuiltins "int" = some (.type "int"):=by decide +kernel
theorem bt_bool:bootBuiltins "bool" = some (.type "bool"):=by decide +kernel
theorem bt_max:bootBuiltins "max" = some (.builtin "max"):=by decide +kernel
theorem bt_all:bootBuiltins "all" = some (.builtin "all"):=by decide +kernel
theorem bt_isinstance:bootBuiltins "isinstance" = some (.builtin "isinstance"):=by decide +kernel
theorem bt_sum:bootBuiltins "sum" = some (.builtin "sum"):=by decide +kernel
theorem bt_sorted:bootBuiltins "sorted" = some (.builtin "sorted"):=by decide +kernel
end L2
namespace L2
open PySem PySem.Spec PyProof.Rows PySem.SeqAt
mutual
inductive Rep (K:PySem.W.Frag) (H:Hp):V->PyData->Prop
 |non:Rep K H .non .none
 |bl (b:Bool):Rep K H (.bl b) (.bool b)
 |int (i:Int):Rep K H (.int i) (.int i)
 |str (x:Str):Rep K H (.str x) (.str x)
 |tup {a:Addr} {xs:List V} {ds:List PyData}:SqT K H a xs->Reps K H xs ds->Rep K H (.ref a) (.tuple ds)
 |lst {a:Addr} {xs:List V} {ds:List PyData}:SqL K H a xs->Reps K H xs ds->Rep K H (.ref a) (.list ds)
inductive Reps (K:PySem.W.Frag) (H:Hp):List V->List PyData->Prop
 |nil:Reps K H [] []
 |cons {x:V} {d:PyData} {xs:List V} {ds:List PyData}:Rep K H x d->Reps K H xs ds->Reps K H (x::xs) (d::ds)
end
section
variable {K:PySem.W.Frag} {H H':Hp}
theorem Reps.length:∀ {xs:List V} {ds:List PyData},Reps K H xs ds->xs.length=ds.length
 |_,_,.nil=>rfl
 |_,_,.cons _ t=>by rw [List.length_cons,List.length_cons,Reps.length t]
mutual
theorem Rep.map (f1:∀ a xs,SqT K H a xs->SqT K H' a xs) (f2:∀ a xs,SqL K H a xs->SqL K H' a xs):∀ {v:V} {d:PyData},Rep K H v d->Rep K H' v d
 |_,_,.non=>.non
 |_,_,.bl b=>.bl b
 |_,_,.int i=>.int i
 |_,_,.str x=>.str x
 |_,_,.tup h r=>.tup (f1 _ _ h) (Reps.map f1 f2 r)
 |_,_,.lst h r=>.lst (f2 _ _ h) (Reps.map f1 f2 r)
theorem Reps.map (f1:∀ a xs,SqT K H a xs->SqT K H' a xs) (f2:∀ a xs,SqL K H a xs->SqL K H' a xs):∀ {v:List V} {d:List PyData},Reps K H v d->Reps K H' v d
 |_,_,.nil=>.nil
 |_,_,.cons h r=>.cons (Rep.map f1 f2 h) (Reps.map f1 f2 r)
end
theorem Rep.same {v:V} {d:PyData} (h:Rep K H v d) (e:Same H H'):Rep K H' v d:=h.map (fun _ _ z=>e.tup z) (fun _ _ z=>e.seq z)
theorem Reps.same {v:List V} {d:List PyData} (h:Reps K H v d) (e:Same H H'):Reps K H' v d:=h.map (fun _ _ z=>e.tup z) (fun _ _ z=>e.seq z)
theorem But.seq {p a:Addr} {xs:List V} {kvs:List (Key×V)} (e:But p H H') (hp:H p=some (.dK kvs)) (h:SqL K H a xs):SqL K H' a xs:=by
 rcases h with (h|⟨o,h⟩)|h
 ·exact .inl (.inl (e _ _ h (ne_of h hp (by intro z;cases z))))
 ·exact .inl (.inr ⟨o,e _ _ h (ne_of h hp (by intro z;cases z))⟩)
 ·exact .inr h
theorem But.tup {p a:Addr} {xs:List V} {kvs:List (Key×V)} (e:But p H H') (hp:H p=some (.dK kvs)) (h:SqT K H a xs):SqT K H' a xs:=by
 rcases h with (h|⟨o,h⟩)|h
 ·exact .inl (.inl (e _ _ h (ne_of h hp (by intro z;cases z))))
 ·exact .inl (.inr ⟨o,e _ _ h (ne_of h hp (by intro z;cases z))⟩)
 ·exact .inr h
theorem Rep.but {p:Addr} {kvs:List (Key×V)} {v:V} {d:PyData} (h:Rep K H v d) (e:But p H H') (hp:H p=some (.dK kvs)):Rep K H' v d:=h.map (fun _ _ z=>e.tup hp z) (fun _ _ z=>e.seq hp z)
theorem Reps.get':∀ {xs:List V} {ds:List PyData} {i:Nat} {x:V},Reps K H xs ds->xs[i]?=some x->∃ d,ds[i]?=some d/\Rep K H x d
 |_,_,_,_,.nil,e=>by simp at e
 |_,_,0,_,.cons r _,e=>by simp at e;subst e;exact ⟨_,rfl,r⟩
 | _,_,i+1,d,.cons _ t,e=>by
   obtain ⟨u,h1,h2⟩:=Reps.get' (i:=i) (x:=d) t (by simpa using e)
   exact ⟨u,by simpa using h1,h2⟩
end
section
variable {X:Cx} {pins:List (Addr×Obj)} {σ:St} {H:Hp} {s:Shared}
mutual
theorem Inv.reads (I:Inv X pins σ H s):∀ {v:V} {d:PyData} {u:Value},Rep X.K H v d->RelV v u->∃ as,Reads s.heap u d as
 |_,_,u,.non,r=>by cases (show u=Value.none from r);exact ⟨[],.none⟩
 |_,_,u,.bl b,r=>by cases (show u=Value.bool b from r);exact ⟨[],.bool b⟩
 |_,_,u,.int i,r=>by obtain ⟨t,rfl⟩:=r;exact ⟨[],.int i t⟩
 |_,_,u,.str x,r=>by obtain ⟨t,rfl⟩:=r;exact ⟨[],.str x t⟩
 | _,_,u,.tup h rs,r=>by
   cases (show u=Value.ref _ from r)
   obtain ⟨its,rv,⟨o,e,c,n,hd⟩,_⟩:=I.tuple h
   obtain ⟨as,ra⟩:=Inv.readsAll I rs rv
   exact ⟨as,.tuple e c hd (by simpa using ra)⟩
 | _,_,u,.lst h rs,r=>by
   cases (show u=Value.ref _ from r)
   obtain ⟨its,rv,⟨o,n,e,c,_,hd⟩,_⟩:=I.list h
   obtain ⟨as,ra⟩:=Inv.readsAll I rs rv
   exact ⟨_,.list e c hd (by simpa using ra)⟩
theorem Inv.readsAll (I:Inv X pins σ H s):∀ {vs:List V} {ds:List PyData} {us:List Value},Reps X.K H vs ds->Vals vs us->∃ as,ReadsAll s.heap us ds as
 |_,_,_,.nil,.nil=>⟨[],.nil⟩
 | _,_,_,.cons h hs,.cons r rs=>by
   obtain ⟨as,a⟩:=Inv.reads I h r
   obtain ⟨bs,b⟩:=Inv.readsAll I hs rs
   exact ⟨as++bs,.cons a b⟩
end
end
mutual
def pdEq:PyData->PyData->Bool
 |.none,.none=>true
 |.bool a,.bool b=>a == b
 |.bool a,.int b=>(if a then 1 else 0) == b
 |.int a,.bool b=>a == (if b then 1 else 0)
 |.int a,.int b=>a == b
 |.str a,.str b=>a == b
 |.tuple a,.tuple b=>pdEqs a b
 |.list a,.list b=>pdEqs a b
 |_,_=>false
def pdEqs:List PyData->List PyData->Bool
 |[],[]=>true
 |a::r,b::t=>pdEq a b && pdEqs r t
 |_,_=>false
end
theorem pdEqs_iff:∀ (ds es:List PyData),pdEqs ds es=((List.range (min ds.length es.length)).all (fun j=>pdEq (ds.getD j .none) (es.getD j .none)) && ds.length == es.length)
 |[],[]=>by simp [pdEqs]
 |[],_::_=>by simp [pdEqs]
 |_::_,[]=>by simp [pdEqs]
 | a::r,b::t=>by
   rw [pdEqs,pdEqs_iff r t,List.length_cons,List.length_cons,Nat.succ_min_succ,List.range_succ_eq_map,List.all_cons,List.all_map]
   simp only [List.getD_cons_zero,Bool.and_assoc]
   congr 1
   have e:(r.length+1 == t.length+1)=(r.length == t.length):=by
    rw [Bool.eq_iff_iff];simp
   rw [e]
   congr 1
mutual
def pdDep:PyData->Nat
 |.tuple xs=>pdDeps xs+1
 |.list xs=>pdDeps xs+1
 |_=>0
def pdDeps:List PyData->Nat
 |[]=>0
 |d::r=>max (pdDep d) (pdDeps r)
end
section
variable {X:Cx} {pins:List (Addr×Obj)} {σ:St} {H:Hp} {s:Shared}
mutual
theorem Rep.fn (I:Inv X pins σ H s):∀ {v:V} {d e:PyData} {u:Value},Rep X.K H v d->Rep X.K H v e->RelV v u->d=e/\pdEq d d=true
 |_,_,_,_,.non,.non,_=>⟨rfl,rfl⟩
 |_,_,_,_,.bl b,.bl _,_=>⟨rfl,by simp [pdEq]⟩
 |_,_,_,_,.int i,.int _,_=>⟨rfl,by simp [pdEq]⟩
 |_,_,_,_,.str x,.str _,_=>⟨rfl,by simp [pdEq]⟩
 | _,_,_,_,.tup h1 r1,.tup h2 r2,r=>by
   have e:=I.tuple_inj h1 h2
   subst e
   obtain ⟨its,rv,_,_⟩:=I.tuple h1
   obtain ⟨e,q⟩:=Reps.fn I r1 r2 rv
   exact ⟨by rw [e],q⟩
 | _,_,_,_,.lst h1 r1,.lst h2 r2,r=>by
   have e:=I.list_inj h1 h2
   subst e
   obtain ⟨its,rv,_,_⟩:=I.list h1
   obtain ⟨e,q⟩:=Reps.fn I r1 r2 rv
   exact ⟨by rw [e],q⟩
 | _,_,_,_,.tup h1 _,.lst h2 _,r=>by
   obtain ⟨_,_,⟨o,e1,c1,_⟩,_⟩:=I.tuple h1
   obtain ⟨_,_,⟨o',n,e2,c2,_⟩,_⟩:=I.list h2
   rw [e1] at e2;cases e2
   rw [c1] at c2;injection c2 with z;exact absurd z (by decide)
 | _,_,_,_,.lst h2 _,.tup h1 _,r=>by
   obtain ⟨_,_,⟨o,e1,c1,_⟩,_⟩:=I.tuple h1
   obtain ⟨_,_,⟨o',n,e2,c2,_⟩,_⟩:=I.list h2
   rw [e1] at e2;cases e2
   rw [c1] at c2;injection c2 with z;exact absurd z (by decide)
theorem Reps.fn (I:Inv X pins σ H s):∀ {v:List V} {d e:List PyData} {u:List Value},Reps X.K H v d->Reps X.K H v e->Vals v u->d=e/\pdEqs d d=true
 |_,_,_,_,.nil,.nil,_=>⟨rfl,rfl⟩
 | _,_,_,_,.cons a b,.cons c d,.cons r rs=>by
   obtain ⟨e1,q1⟩:=Rep.fn I a c r
   obtain ⟨e2,q2⟩:=Reps.fn I b d rs
   exact ⟨by rw [e1,e2],by simp [pdEqs,q1,q2]⟩
end
theorem allEq {vs ws:List V} {ds es:List PyData} {us xs:List Value} {A:Around} (rs1:Reps X.K H vs ds) (rs2:Reps X.K H ws es) (rv1:Vals vs us) (rv2:Vals ws xs) :
 ((List.range (min us.toArray.size xs.toArray.size)).all (fun j=>pdEq (ds.getD j .none) (es.getD j .none)) && us.toArray.size == xs.toArray.size)=pdEqs ds es:=by
 rw [pdEqs_iff,List.size_toArray,List.size_toArray,← rv1.length,← rv2.length,rs1.length,rs2.length]
theorem rcT {l b:Addr} {vs ws:List V} {ds es:List PyData} {us xs:List Value} {A:Around} (rs1:Reps X.K H vs ds) (rs2:Reps X.K H ws es) (rv1:Vals vs us) (rv2:Vals ws xs) (p1:IsTup s.heap l us.toArray) (p2:IsTup s.heap b xs.toArray) (hu:A.units<cLine)
 (he:∀ j (h1:j<us.length) (h2:j<xs.length),EqAt A.in1 s us[j] xs[j] (pdEq (ds.getD j .none) (es.getD j .none))):RcAt A s (.ref l) (.ref b) (pdEq (.tuple ds) (.tuple es)):=by
 show RcAt A s (.ref l) (.ref b) (pdEqs ds es)
 rw [← allEq (A:=A) rs1 rs2 rv1 rv2]
 exact RcAt.tuples (show s.heap.IsTuple l us.toArray from p1) (show s.heap.IsTuple b xs.toArray from p2) hu fun j h1 h2=>by simpa using he j (by simpa using h1) (by simpa using h2)
theorem rcL {l b:Addr} {vs ws:List V} {ds es:List PyData} {us xs:List Value} {A:Around} (rs1:Reps X.K H vs ds) (rs2:Reps X.K H ws es) (rv1:Vals vs us) (rv2:Vals ws xs) (p1:s.heap.IsList l us.toArray) (p2:s.heap.IsList b xs.toArray) (hu:A.units<cLine)
 (he:∀ j (h1:j<us.length) (h2:j<xs.length),EqAt A.in1 s us[j] xs[j] (pdEq (ds.getD j .none) (es.getD j .none))):RcAt A s (.ref l) (.ref b) (pdEq (.list ds) (.list es)):=by
 show RcAt A s (.ref l) (.ref b) (pdEqs ds es)
 have q:=allEq (A:=A) rs1 rs2 rv1 rv2
 by_cases hz:us.toArray.size=xs.toArray.size
 ·rw [← q,hz,Nat.min_self,beq_self_eq_true,Bool.and_true,← hz]
  exact RcAt.lists p1 p2 hz hu fun j h1 h2=>by simpa using he j (by simpa using h1) (by simpa using h2)
 ·have e:pdEqs ds es=false:=by
   rw [← q]
   have:(us.toArray.size == xs.toArray.size)=false:=by simpa using hz
   rw [this,Bool.and_false]
  rw [e]
  exact RcAt.lists_lengths p1 p2 (by simpa using hz) hu
theorem eqT (I:Inv X pins σ H s) {l b:Addr} {vs ws:List V} {ds es:List PyData} {us xs:List Value} {A:Around} (h1:SqT X.K H l vs) (h2:SqT X.K H b ws) (rs1:Reps X.K H vs ds) (rs2:Reps X.K H ws es) (rv1:Vals vs us) (rv2:Vals ws xs) (p1:IsTup s.heap l us.toArray) (p2:IsTup s.heap b xs.toArray) (hu:A.units<cLine)
 (he:∀ j (h1:j<us.length) (h2:j<xs.length),EqAt A.in1 s us[j] xs[j] (pdEq (ds.getD j .none) (es.getD j .none))):EqAt A s (.ref l) (.ref b) (pdEq (.tuple ds) (.tuple es)):=by
 by_cases hlb:l=b
 ·subst hlb
  obtain ⟨e,q⟩:=Rep.fn I (.tup h1 rs1) (.tup h2 rs2) (u:=.ref l) rfl
  rw [← e,q]
  exact EqAt.same _
 ·exact EqAt.of_refs hlb (rcT rs1 rs2 rv1 rv2 p1 p2 hu he)
theorem eqL (I:Inv X pins σ H s) {l b:Addr} {vs ws:List V} {ds es:List PyData} {us xs:List Value} {A:Around} (h1:SqL X.K H l vs) (h2:SqL X.K H b ws) (rs1:Reps X.K H vs ds) (rs2:Reps X.K H ws es) (rv1:Vals vs us) (rv2:Vals ws xs) (p1:s.heap.IsList l us.toArray) (p2:s.heap.IsList b xs.toArray) (hu:A.units<cLine)
 (he:∀ j (h1:j<us.length) (h2:j<xs.length),EqAt A.in1 s us[j] xs[j] (pdEq (ds.getD j .none) (es.getD j .none))):EqAt A s (.ref l) (.ref b) (pdEq (.list ds) (.list es)):=by
 by_cases hlb:l=b
 ·subst hlb
  obtain ⟨e,q⟩:=Rep.fn I (.lst h1 rs1) (.lst h2 rs2) (u:=.ref l) rfl
  rw [← e,q]
  exact EqAt.same _
 ·exact EqAt.of_refs hlb (rcL rs1 rs2 rv1 rv2 p1 p2 hu he)
theorem hu00 {A:Around} {n:Nat} (h:A.units+n<cLine):A.units<cLine:=by omega
theorem hu0 {A:Around} {n:Nat} (h:A.units+(n+1)<cLine):A.units<cLine:=by omega
theorem hu1 {A:Around} {n:Nat} (h:A.units+(n+1)<cLine):A.in1.units+n<cLine:=by show A.units+1+n<cLine;omega
mutual
theorem eq_at (I:Inv X pins σ H s):∀ {v w:V} {d e:PyData} {u x:Value} {A:Around},Rep X.K H v d->Rep X.K H w e->RelV v u->RelV w x->A.units+pdDep d<cLine->EqAt A s u x (pdEq d e)
 | _,_,_,_,u,x,A,.non,.non,r1,r2,hu=>by
   cases (show u=Value.none from r1)
   cases (show x=Value.none from r2)
   exact EqAt.same _
 | _,_,_,_,u,x,A,.non,.bl b2,r1,r2,hu=>by
   cases (show u=Value.none from r1)
   cases (show x=Value.bool b2 from r2)
   exact EqAt.none_bool b2
 | _,_,_,_,u,x,A,.non,.int i2,r1,r2,hu=>by
   cases (show u=Value.none from r1)
   obtain ⟨t2,e2⟩:=(show ∃ t,x=Value.int i2 t from r2);subst e2
   exact EqAt.none_int i2 t2
 | _,_,_,_,u,x,A,.non,.str y2,r1,r2,hu=>by
   cases (show u=Value.none from r1)
   obtain ⟨t2,e2⟩:=(show ∃ t,x=Value.str y2 t from r2);subst e2
   exact EqAt.none_str y2 t2
 | _,_,_,_,u,x,A,.non,.lst h2 rs2,r1,r2,hu=>by
   cases (show u=Value.none from r1)
   cases (show x=Value.ref _ from r2);obtain ⟨its2,rv2,p2,_⟩:=I.list h2
   exact EqAt.none_list p2.isList (hu00 hu)
 | _,_,_,_,u,x,A,.non,.tup h2 rs2,r1,r2,hu=>by
   cases (show u=Value.none from r1)
   cases (show x=Value.ref _ from r2);obtain ⟨its2,rv2,p2,_⟩:=I.tuple h2
   exact EqAt.none_tuple p2 (hu00 hu)
 | _,_,_,_,u,x,A,.bl b1,.non,r1,r2,hu=>by
   cases (show u=Value.bool b1 from r1)
   cases (show x=Value.none from r2)
   exact EqAt.bool_none b1
 | _,_,_,_,u,x,A,.bl b1,.bl b2,r1,r2,hu=>by
   cases (show u=Value.bool b1 from r1)
   cases (show x=Value.bool b2 from r2)
   exact EqAt.bool_bool b1 b2
 | _,_,_,_,u,x,A,.bl b1,.int i2,r1,r2,hu=>by
   cases (show u=Value.bool b1 from r1)
   obtain ⟨t2,e2⟩:=(show ∃ t,x=Value.int i2 t from r2);subst e2
   exact EqAt.bool_int b1 i2 t2
 | _,_,_,_,u,x,A,.bl b1,.str y2,r1,r2,hu=>by
   cases (show u=Value.bool b1 from r1)
   obtain ⟨t2,e2⟩:=(show ∃ t,x=Value.str y2 t from r2);subst e2
   exact EqAt.bool_str b1 y2 t2
 | _,_,_,_,u,x,A,.bl b1,.lst h2 rs2,r1,r2,hu=>by
   cases (show u=Value.bool b1 from r1)
   cases (show x=Value.ref _ from r2);obtain ⟨its2,rv2,p2,_⟩:=I.list h2
   exact EqAt.bool_list b1 p2.isList (hu00 hu)
 | _,_,_,_,u,x,A,.bl b1,.tup h2 rs2,r1,r2,hu=>by
   cases (show u=Value.bool b1 from r1)
   cases (show x=Value.ref _ from r2);obtain ⟨its2,rv2,p2,_⟩:=I.tuple h2
   exact EqAt.bool_tuple b1 p2 (hu00 hu)
 | _,_,_,_,u,x,A,.int i1,.non,r1,r2,hu=>by
   obtain ⟨t1,e1⟩:=(show ∃ t,u=Value.int i1 t from r1);subst e1
   cases (show x=Value.none from r2)
   exact EqAt.int_none i1 t1
 | _,_,_,_,u,x,A,.int i1,.bl b2,r1,r2,hu=>by
   obtain ⟨t1,e1⟩:=(show ∃ t,u=Value.int i1 t from r1);subst e1
   cases (show x=Value.bool b2 from r2)
   exact EqAt.int_bool i1 t1 b2
 | _,_,_,_,u,x,A,.int i1,.int i2,r1,r2,hu=>by
   obtain ⟨t1,e1⟩:=(show ∃ t,u=Value.int i1 t from r1);subst e1
   obtain ⟨t2,e2⟩:=(show ∃ t,x=Value.int i2 t from r2);subst e2
   exact EqAt.int_int i1 t1 i2 t2
 | _,_,_,_,u,x,A,.int i1,.str y2,r1,r2,hu=>by
   obtain ⟨t1,e1⟩:=(show ∃ t,u=Value.int i1 t from r1);subst e1
   obtain ⟨t2,e2⟩:=(show ∃ t,x=Value.str y2 t from r2);subst e2
   exact EqAt.int_str i1 t1 y2 t2
 | _,_,_,_,u,x,A,.int i1,.lst h2 rs2,r1,r2,hu=>by
   obtain ⟨t1,e1⟩:=(show ∃ t,u=Value.int i1 t from r1);subst e1
   cases (show x=Value.ref _ from r2);obtain ⟨its2,rv2,p2,_⟩:=I.list h2
   exact EqAt.int_list i1 t1 p2.isList (hu00 hu)
 | _,_,_,_,u,x,A,.int i1,.tup h2 rs2,r1,r2,hu=>by
   obtain ⟨t1,e1⟩:=(show ∃ t,u=Value.int i1 t from r1);subst e1
   cases (show x=Value.ref _ from r2);obtain ⟨its2,rv2,p2,_⟩:=I.tuple h2
   exact EqAt.int_tuple i1 t1 p2 (hu00 hu)
 | _,_,_,_,u,x,A,.str y1,.non,r1,r2,hu=>by
   obtain ⟨t1,e1⟩:=(show ∃ t,u=Value.str y1 t from r1);subst e1
   cases (show x=Value.none from r2)
   exact EqAt.str_none y1 t1
 | _,_,_,_,u,x,A,.str y1,.bl b2,r1,r2,hu=>by
   obtain ⟨t1,e1⟩:=(show ∃ t,u=Value.str y1 t from r1);subst e1
   cases (show x=Value.bool b2 from r2)
   exact EqAt.str_bool y1 t1 b2
 | _,_,_,_,u,x,A,.str y1,.int i2,r1,r2,hu=>by
   obtain ⟨t1,e1⟩:=(show ∃ t,u=Value.str y1 t from r1);subst e1
   obtain ⟨t2,e2⟩:=(show ∃ t,x=Value.int i2 t from r2);subst e2
   exact EqAt.str_int y1 t1 i2 t2
 | _,_,_,_,u,x,A,.str y1,.str y2,r1,r2,hu=>by
   obtain ⟨t1,e1⟩:=(show ∃ t,u=Value.str y1 t from r1);subst e1
   obtain ⟨t2,e2⟩:=(show ∃ t,x=Value.str y2 t from r2);subst e2
   exact EqAt.str_str y1 t1 y2 t2
 | _,_,_,_,u,x,A,.str y1,.lst h2 rs2,r1,r2,hu=>by
   obtain ⟨t1,e1⟩:=(show ∃ t,u=Value.str y1 t from r1);subst e1
   cases (show x=Value.ref _ from r2);obtain ⟨its2,rv2,p2,_⟩:=I.list h2
   exact EqAt.str_list y1 t1 p2.isList (hu00 hu)
 | _,_,_,_,u,x,A,.str y1,.tup h2 rs2,r1,r2,hu=>by
   obtain ⟨t1,e1⟩:=(show ∃ t,u=Value.str y1 t from r1);subst e1
   cases (show x=Value.ref _ from r2);obtain ⟨its2,rv2,p2,_⟩:=I.tuple h2
   exact EqAt.str_tuple y1 t1 p2 (hu00 hu)
 | _,_,_,_,u,x,A,.lst h1 rs1,.non,r1,r2,hu=>by
   cases (show u=Value.ref _ from r1);obtain ⟨its1,rv1,p1,_⟩:=I.list h1
   cases (show x=Value.none from r2)
   exact EqAt.list_none p1.isList (hu00 hu)
 | _,_,_,_,u,x,A,.lst h1 rs1,.bl b2,r1,r2,hu=>by
   cases (show u=Value.ref _ from r1);obtain ⟨its1,rv1,p1,_⟩:=I.list h1
   cases (show x=Value.bool b2 from r2)
   exact EqAt.list_bool b2 p1.isList (hu00 hu)
 | _,_,_,_,u,x,A,.lst h1 rs1,.int i2,r1,r2,hu=>by
   cases (show u=Value.ref _ from r1);obtain ⟨its1,rv1,p1,_⟩:=I.list h1
   obtain ⟨t2,e2⟩:=(show ∃ t,x=Value.int i2 t from r2);subst e2
   exact EqAt.list_int i2 t2 p1.isList (hu00 hu)
 | _,_,_,_,u,x,A,.lst h1 rs1,.str y2,r1,r2,hu=>by
   cases (show u=Value.ref _ from r1);obtain ⟨its1,rv1,p1,_⟩:=I.list h1
   obtain ⟨t2,e2⟩:=(show ∃ t,x=Value.str y2 t from r2);subst e2
   exact EqAt.list_str y2 t2 p1.isList (hu00 hu)
 | _,_,_,_,u,x,A,.lst h1 rs1,.lst h2 rs2,r1,r2,hu=>by
   cases (show u=Value.ref _ from r1);obtain ⟨its1,rv1,p1,_⟩:=I.list h1
   cases (show x=Value.ref _ from r2);obtain ⟨its2,rv2,p2,_⟩:=I.list h2
   exact eqL I h1 h2 rs1 rs2 rv1 rv2 p1.isList p2.isList (hu0 hu) (eqs_at I rs1 rs2 rv1 rv2 (hu1 hu))
 | _,_,_,_,u,x,A,.lst h1 rs1,.tup h2 rs2,r1,r2,hu=>by
   cases (show u=Value.ref _ from r1);obtain ⟨its1,rv1,p1,_⟩:=I.list h1
   cases (show x=Value.ref _ from r2);obtain ⟨its2,rv2,p2,_⟩:=I.tuple h2
   exact EqAt.list_tuple p1.isList p2 (hu00 hu)
 | _,_,_,_,u,x,A,.tup h1 rs1,.non,r1,r2,hu=>by
   cases (show u=Value.ref _ from r1);obtain ⟨its1,rv1,p1,_⟩:=I.tuple h1
   cases (show x=Value.none from r2)
   exact EqAt.tuple_none p1 (hu00 hu)
 | _,_,_,_,u,x,A,.tup h1 rs1,.bl b2,r1,r2,hu=>by
   cases (show u=Value.ref _ from r1);obtain ⟨its1,rv1,p1,_⟩:=I.tuple h1
   cases (show x=Value.bool b2 from r2)
   exact EqAt.tuple_bool b2 p1 (hu00 hu)
 | _,_,_,_,u,x,A,.tup h1 rs1,.int i2,r1,r2,hu=>by
   cases (show u=Value.ref _ from r1);obtain ⟨its1,rv1,p1,_⟩:=I.tuple h1
   obtain ⟨t2,e2⟩:=(show ∃ t,x=Value.int i2 t from r2);subst e2
   exact EqAt.tuple_int i2 t2 p1 (hu00 hu)
 | _,_,_,_,u,x,A,.tup h1 rs1,.str y2,r1,r2,hu=>by
   cases (show u=Value.ref _ from r1);obtain ⟨its1,rv1,p1,_⟩:=I.tuple h1
   obtain ⟨t2,e2⟩:=(show ∃ t,x=Value.str y2 t from r2);subst e2
   exact EqAt.tuple_str y2 t2 p1 (hu00 hu)
 | _,_,_,_,u,x,A,.tup h1 rs1,.lst h2 rs2,r1,r2,hu=>by
   cases (show u=Value.ref _ from r1);obtain ⟨its1,rv1,p1,_⟩:=I.tuple h1
   cases (show x=Value.ref _ from r2);obtain ⟨its2,rv2,p2,_⟩:=I.list h2
   exact EqAt.tuple_list p1 p2.isList (hu00 hu)
 | _,_,_,_,u,x,A,.tup h1 rs1,.tup h2 rs2,r1,r2,hu=>by
   cases (show u=Value.ref _ from r1);obtain ⟨its1,rv1,p1,_⟩:=I.tuple h1
   cases (show x=Value.ref _ from r2);obtain ⟨its2,rv2,p2,_⟩:=I.tuple h2
   exact eqT I h1 h2 rs1 rs2 rv1 rv2 p1 p2 (hu0 hu) (eqs_at I rs1 rs2 rv1 rv2 (hu1 hu))
theorem eqs_at (I:Inv X pins σ H s):∀ {vs ws:List V} {ds es:List PyData} {us xs:List Value} {A:Around},Reps X.K H vs ds->Reps X.K H ws es->Vals vs us->Vals ws xs->A.units+pdDeps ds<cLine->
 ∀ j (h1:j<us.length) (h2:j<xs.length),EqAt A s us[j] xs[j] (pdEq (ds.getD j .none) (es.getD j .none))
 |_,_,_,_,_,_,_,.nil,_,.nil,_,_,j,h1,_=>absurd h1 (Nat.not_lt_zero _)
 |_,_,_,_,_,_,_,.cons _ _,.nil,.cons _ _,.nil,_,j,_,h2=>absurd h2 (Nat.not_lt_zero _)
 |_,_,_,_,_,_,_,.cons a b,.cons c d,.cons r rs,.cons t ts,hu,0,_,_=>eq_at I a c r t (by simp only [pdDeps] at hu;simp only [List.getD_cons_zero];omega)
 |_,_,_,_,_,_,_,.cons a b,.cons c d,.cons r rs,.cons t ts,hu,j+1,h1,h2=>eqs_at I b d rs ts (by simp only [pdDeps] at hu;omega) j (by simpa using h1) (by simpa using h2)
end
theorem rc_at (I:Inv X pins σ H s):∀ {v w:V} {d e:PyData} {u x:Value} {A:Around},Rep X.K H v d->Rep X.K H w e->RelV v u->RelV w x->A.units+pdDep d<cLine->RcAt A s u x (pdEq d e)
 | _,_,_,_,u,x,A,.non,.non,r1,r2,hu=>by
   cases (show u=Value.none from r1)
   cases (show x=Value.none from r2)
   exact RcAt.none_none
 | _,_,_,_,u,x,A,.non,.bl b2,r1,r2,hu=>by
   cases (show u=Value.none from r1)
   cases (show x=Value.bool b2 from r2)
   exact RcAt.none_bool b2
 | _,_,_,_,u,x,A,.non,.int i2,r1,r2,hu=>by
   cases (show u=Value.none from r1)
   obtain ⟨t2,e2⟩:=(show ∃ t,x=Value.int i2 t from r2);subst e2
   exact RcAt.none_int i2 t2
 | _,_,_,_,u,x,A,.non,.str y2,r1,r2,hu=>by
   cases (show u=Value.none from r1)
   obtain ⟨t2,e2⟩:=(show ∃ t,x=Value.str y2 t from r2);subst e2
   exact RcAt.none_str y2 t2
 | _,_,_,_,u,x,A,.non,.lst h2 rs2,r1,r2,hu=>by
   cases (show u=Value.none from r1)
   cases (show x=Value.ref _ from r2);obtain ⟨its2,rv2,p2,_⟩:=I.list h2
   exact RcAt.none_list p2.isList (hu00 hu)
 | _,_,_,_,u,x,A,.non,.tup h2 rs2,r1,r2,hu=>by
   cases (show u=Value.none from r1)
   cases (show x=Value.ref _ from r2);obtain ⟨its2,rv2,p2,_⟩:=I.tuple h2
   exact RcAt.none_tuple p2 (hu00 hu)
 | _,_,_,_,u,x,A,.bl b1,.non,r1,r2,hu=>by
   cases (show u=Value.bool b1 from r1)
   cases (show x=Value.none from r2)
   exact RcAt.bool_none b1
 | _,_,_,_,u,x,A,.bl b1,.bl b2,r1,r2,hu=>by
   cases (show u=Value.bool b1 from r1)
   cases (show x=Value.bool b2 from r2)
   exact RcAt.bool_bool b1 b2
 | _,_,_,_,u,x,A,.bl b1,.int i2,r1,r2,hu=>by
   cases (show u=Value.bool b1 from r1)
   obtain ⟨t2,e2⟩:=(show ∃ t,x=Value.int i2 t from r2);subst e2
   exact RcAt.bool_int b1 i2 t2
 | _,_,_,_,u,x,A,.bl b1,.str y2,r1,r2,hu=>by
   cases (show u=Value.bool b1 from r1)
   obtain ⟨t2,e2⟩:=(show ∃ t,x=Value.str y2 t from r2);subst e2
   exact RcAt.bool_str b1 y2 t2
 | _,_,_,_,u,x,A,.bl b1,.lst h2 rs2,r1,r2,hu=>by
   cases (show u=Value.bool b1 from r1)
   cases (show x=Value.ref _ from r2);obtain ⟨its2,rv2,p2,_⟩:=I.list h2
   exact RcAt.bool_list b1 p2.isList (hu00 hu)
 | _,_,_,_,u,x,A,.bl b1,.tup h2 rs2,r1,r2,hu=>by
   cases (show u=Value.bool b1 from r1)
   cases (show x=Value.ref _ from r2);obtain ⟨its2,rv2,p2,_⟩:=I.tuple h2
   exact RcAt.bool_tuple b1 p2 (hu00 hu)
 | _,_,_,_,u,x,A,.int i1,.non,r1,r2,hu=>by
   obtain ⟨t1,e1⟩:=(show ∃ t,u=Value.int i1 t from r1);subst e1
   cases (show x=Value.none from r2)
   exact RcAt.int_none i1 t1
 | _,_,_,_,u,x,A,.int i1,.bl b2,r1,r2,hu=>by
   obtain ⟨t1,e1⟩:=(show ∃ t,u=Value.int i1 t from r1);subst e1
   cases (show x=Value.bool b2 from r2)
   exact RcAt.int_bool i1 t1 b2
 | _,_,_,_,u,x,A,.int i1,.int i2,r1,r2,hu=>by
   obtain ⟨t1,e1⟩:=(show ∃ t,u=Value.int i1 t from r1);subst e1
   obtain ⟨t2,e2⟩:=(show ∃ t,x=Value.int i2 t from r2);subst e2
   exact RcAt.int_int i1 t1 i2 t2
 | _,_,_,_,u,x,A,.int i1,.str y2,r1,r2,hu=>by
   obtain ⟨t1,e1⟩:=(show ∃ t,u=Value.int i1 t from r1);subst e1
   obtain ⟨t2,e2⟩:=(show ∃ t,x=Value.str y2 t from r2);subst e2
   exact RcAt.int_str i1 t1 y2 t2
 | _,_,_,_,u,x,A,.int i1,.lst h2 rs2,r1,r2,hu=>by
   obtain ⟨t1,e1⟩:=(show ∃ t,u=Value.int i1 t from r1);subst e1
   cases (show x=Value.ref _ from r2);obtain ⟨its2,rv2,p2,_⟩:=I.list h2
   exact RcAt.int_list i1 t1 p2.isList (hu00 hu)
 | _,_,_,_,u,x,A,.int i1,.tup h2 rs2,r1,r2,hu=>by
   obtain ⟨t1,e1⟩:=(show ∃ t,u=Value.int i1 t from r1);subst e1
   cases (show x=Value.ref _ from r2);obtain ⟨its2,rv2,p2,_⟩:=I.tuple h2
   exact RcAt.int_tuple i1 t1 p2 (hu00 hu)
 | _,_,_,_,u,x,A,.str y1,.non,r1,r2,hu=>by
   obtain ⟨t1,e1⟩:=(show ∃ t,u=Value.str y1 t from r1);subst e1
   cases (show x=Value.none from r2)
   exact RcAt.str_none y1 t1
 | _,_,_,_,u,x,A,.str y1,.bl b2,r1,r2,hu=>by
   obtain ⟨t1,e1⟩:=(show ∃ t,u=Value.str y1 t from r1);subst e1
   cases (show x=Value.bool b2 from r2)
   exact RcAt.str_bool y1 t1 b2
 | _,_,_,_,u,x,A,.str y1,.int i2,r1,r2,hu=>by
   obtain ⟨t1,e1⟩:=(show ∃ t,u=Value.str y1 t from r1);subst e1
   obtain ⟨t2,e2⟩:=(show ∃ t,x=Value.int i2 t from r2);subst e2
   exact RcAt.str_int y1 t1 i2 t2
 | _,_,_,_,u,x,A,.str y1,.str y2,r1,r2,hu=>by
   obtain ⟨t1,e1⟩:=(show ∃ t,u=Value.str y1 t from r1);subst e1
   obtain ⟨t2,e2⟩:=(show ∃ t,x=Value.str y2 t from r2);subst e2
   exact RcAt.str_str y1 t1 y2 t2
 | _,_,_,_,u,x,A,.str y1,.lst h2 rs2,r1,r2,hu=>by
   obtain ⟨t1,e1⟩:=(show ∃ t,u=Value.str y1 t from r1);subst e1
   cases (show x=Value.ref _ from r2);obtain ⟨its2,rv2,p2,_⟩:=I.list h2
   exact RcAt.str_list y1 t1 p2.isList (hu00 hu)
 | _,_,_,_,u,x,A,.str y1,.tup h2 rs2,r1,r2,hu=>by
   obtain ⟨t1,e1⟩:=(show ∃ t,u=Value.str y1 t from r1);subst e1
   cases (show x=Value.ref _ from r2);obtain ⟨its2,rv2,p2,_⟩:=I.tuple h2
   exact RcAt.str_tuple y1 t1 p2 (hu00 hu)
 | _,_,_,_,u,x,A,.lst h1 rs1,.non,r1,r2,hu=>by
   cases (show u=Value.ref _ from r1);obtain ⟨its1,rv1,p1,_⟩:=I.list h1
   cases (show x=Value.none from r2)
   exact RcAt.list_none p1.isList (hu00 hu)
 | _,_,_,_,u,x,A,.lst h1 rs1,.bl b2,r1,r2,hu=>by
   cases (show u=Value.ref _ from r1);obtain ⟨its1,rv1,p1,_⟩:=I.list h1
   cases (show x=Value.bool b2 from r2)
   exact RcAt.list_bool b2 p1.isList (hu00 hu)
 | _,_,_,_,u,x,A,.lst h1 rs1,.int i2,r1,r2,hu=>by
   cases (show u=Value.ref _ from r1);obtain ⟨its1,rv1,p1,_⟩:=I.list h1
   obtain ⟨t2,e2⟩:=(show ∃ t,x=Value.int i2 t from r2);subst e2
   exact RcAt.list_int i2 t2 p1.isList (hu00 hu)
 | _,_,_,_,u,x,A,.lst h1 rs1,.str y2,r1,r2,hu=>by
   cases (show u=Value.ref _ from r1);obtain ⟨its1,rv1,p1,_⟩:=I.list h1
   obtain ⟨t2,e2⟩:=(show ∃ t,x=Value.str y2 t from r2);subst e2
   exact RcAt.list_str y2 t2 p1.isList (hu00 hu)
 | _,_,_,_,u,x,A,.lst h1 rs1,.lst h2 rs2,r1,r2,hu=>by
   cases (show u=Value.ref _ from r1);obtain ⟨its1,rv1,p1,_⟩:=I.list h1
   cases (show x=Value.ref _ from r2);obtain ⟨its2,rv2,p2,_⟩:=I.list h2
   exact rcL rs1 rs2 rv1 rv2 p1.isList p2.isList (hu0 hu) (eqs_at I rs1 rs2 rv1 rv2 (hu1 hu))
 | _,_,_,_,u,x,A,.lst h1 rs1,.tup h2 rs2,r1,r2,hu=>by
   cases (show u=Value.ref _ from r1);obtain ⟨its1,rv1,p1,_⟩:=I.list h1
   cases (show x=Value.ref _ from r2);obtain ⟨its2,rv2,p2,_⟩:=I.tuple h2
   exact RcAt.list_tuple p1.isList p2 (hu00 hu)
 | _,_,_,_,u,x,A,.tup h1 rs1,.non,r1,r2,hu=>by
   cases (show u=Value.ref _ from r1);obtain ⟨its1,rv1,p1,_⟩:=I.tuple h1
   cases (show x=Value.none from r2)
   exact RcAt.tuple_none p1 (hu00 hu)
 | _,_,_,_,u,x,A,.tup h1 rs1,.bl b2,r1,r2,hu=>by
   cases (show u=Value.ref _ from r1);obtain ⟨its1,rv1,p1,_⟩:=I.tuple h1
   cases (show x=Value.bool b2 from r2)
   exact RcAt.tuple_bool b2 p1 (hu00 hu)
 | _,_,_,_,u,x,A,.tup h1 rs1,.int i2,r1,r2,hu=>by
   cases (show u=Value.ref _ from r1);obtain ⟨its1,rv1,p1,_⟩:=I.tuple h1
   obtain ⟨t2,e2⟩:=(show ∃ t,x=Value.int i2 t from r2);subst e2
   exact RcAt.tuple_int i2 t2 p1 (hu00 hu)
 | _,_,_,_,u,x,A,.tup h1 rs1,.str y2,r1,r2,hu=>by
   cases (show u=Value.ref _ from r1);obtain ⟨its1,rv1,p1,_⟩:=I.tuple h1
   obtain ⟨t2,e2⟩:=(show ∃ t,x=Value.str y2 t from r2);subst e2
   exact RcAt.tuple_str y2 t2 p1 (hu00 hu)
 | _,_,_,_,u,x,A,.tup h1 rs1,.lst h2 rs2,r1,r2,hu=>by
   cases (show u=Value.ref _ from r1);obtain ⟨its1,rv1,p1,_⟩:=I.tuple h1
   cases (show x=Value.ref _ from r2);obtain ⟨its2,rv2,p2,_⟩:=I.list h2
   exact RcAt.tuple_list p1 p2.isList (hu00 hu)
 | _,_,_,_,u,x,A,.tup h1 rs1,.tup h2 rs2,r1,r2,hu=>by
   cases (show u=Value.ref _ from r1);obtain ⟨its1,rv1,p1,_⟩:=I.tuple h1
   cases (show x=Value.ref _ from r2);obtain ⟨its2,rv2,p2,_⟩:=I.tuple h2
   exact rcT rs1 rs2 rv1 rv2 p1 p2 (hu0 hu) (eqs_at I rs1 rs2 rv1 rv2 (hu1 hu))
end
section
variable {X:Cx}
def rEqD (K:PySem.W.Frag):R2:=fun x y H Q=>∃ d e,Rep K H x d/\Rep K H y e/\pdDep d≤60/\Q (.bl (pdEq d e)) H
theorem op_eqD (hu:X.A.units+64<cLine):OpR X (compareOp .Eq) (rEqD X.K):=by
 intro pins s σ H x y v u Q I rx ry h
 obtain ⟨d,e,h1,h2,hd,q⟩:=h
 exact rc_at I h1 h2 rx ry (by omega) _ _ _ _ ⟨.bl _,H,I,rfl,q⟩
theorem pdDep_le {e:PyData}:∀ {es:List PyData},e∈es->pdDep e≤pdDeps es
 |_::_,.head _=>by simp only [pdDeps];omega
 |_::r,.tail _ h=>by have:=pdDep_le h;simp only [pdDeps];omega
def tyD:PyData->String
 |.none=>"NoneType"
 |.bool _=>"bool"
 |.int _=>"int"
 |.str _=>"str"
 |.list _=>"list"
 |.tuple _=>"tuple"
 |.dict _=>"dict"
theorem isD {pins:List (Addr×Obj)} {σ:St} {H:Hp} {s:Shared} {A:Around} {E:Value->Shared->Prop} {Q:Value->Shared->Prop} {v:V} {d:PyData} {u c:Value} {b:Bool} (I:Inv X pins σ H s) (r:Rep X.K H v d) (rv:RelV v u)
 (e:PySem.W.kitOne X.K (.type (tyD d)) c=some b) (h:∀ tk,Q (.bool b) { s with toks:=tk }):wpAny (model X.prog X.w) A (call (.builtin "isinstance") [u,c]) Q E s:=by
 cases r with
 |non=>cases (show u=Value.none from rv);exact PySem.W.kia_one PySem.W.kitx_none I.kIn True.intro e (fun z=>nomatch z) h
 |bl y=>cases (show u=Value.bool y from rv);exact PySem.W.kia_one PySem.W.kitx_bool I.kIn True.intro e (fun z=>nomatch z) h
 |int i=>obtain ⟨t,q⟩:=(show ∃ t,u=Value.int i t from rv);cases q;exact PySem.W.kia_one PySem.W.kitx_int I.kIn True.intro e (fun z=>nomatch z) h
 |str y=>obtain ⟨t,q⟩:=(show ∃ t,u=Value.str y t from rv);cases q;exact PySem.W.kia_one PySem.W.kitx_str I.kIn True.intro e (fun z=>nomatch z) h
 | tup g _=>
   cases (show u=Value.ref _ from rv)
   obtain ⟨_,_,⟨o,h1,h2,_⟩,_⟩:=I.tuple g
   exact PySem.W.kia_one PySem.W.kitx_tuple I.kIn ⟨o,h1,h2⟩ e (fun z=>nomatch z) h
 | lst g _=>
   cases (show u=Value.ref _ from rv)
   obtain ⟨_,_,⟨o,n,h1,h2,_⟩,_⟩:=I.list g
   exact PySem.W.kia_one PySem.W.kitx_list I.kIn ⟨o,h1,h2⟩ e (fun z=>nomatch z) h
theorem isD2 {pins:List (Addr×Obj)} {σ:St} {H:Hp} {s:Shared} {A:Around} {E:Value->Shared->Prop} {Q:Value->Shared->Prop} {v:V} {d:PyData} {u:Value} {tp:Addr} {dd:Option Addr} {its:List Value} {n:Nat} {sl:Array (Option Value)} {b:Bool} (I:Inv X pins σ H s) (r:Rep X.K H v d) (rv:RelV v u)
 (htp:s.heap.get? tp=some ⟨.type "tuple",dd,.seq its.toArray n,sl⟩) (e:PySem.W.kitAny X.K (.type (tyD d)) its=some b) (h:∀ tk,Q (.bool b) { s with toks:=tk }):wpAny (model X.prog X.w) A (call (.builtin "isinstance") [u,.ref tp]) Q E s:=by
 cases r with
 |non=>cases (show u=Value.none from rv);exact PySem.W.kia_tup PySem.W.kitx_none I.kIn True.intro htp e (fun z=>nomatch z) h
 |bl y=>cases (show u=Value.bool y from rv);exact PySem.W.kia_tup PySem.W.kitx_bool I.kIn True.intro htp e (fun z=>nomatch z) h
 |int i=>obtain ⟨t,q⟩:=(show ∃ t,u=Value.int i t from rv);cases q;exact PySem.W.kia_tup PySem.W.kitx_int I.kIn True.intro htp e (fun z=>nomatch z) h
 |str y=>obtain ⟨t,q⟩:=(show ∃ t,u=Value.str y t from rv);cases q;exact PySem.W.kia_tup PySem.W.kitx_str I.kIn True.intro htp e (fun z=>nomatch z) h
 | tup g _=>
   cases (show u=Value.ref _ from rv)
   obtain ⟨_,_,⟨o,h1,h2,_⟩,_⟩:=I.tuple g
   exact PySem.W.kia_tup PySem.W.kitx_tuple I.kIn ⟨o,h1,h2⟩ htp e (fun z=>nomatch z) h
 | lst g _=>
   cases (show u=Value.ref _ from rv)
   obtain ⟨_,_,⟨o,n,h1,h2,_⟩,_⟩:=I.list g
   exact PySem.W.kia_tup PySem.W.kitx_list I.kIn ⟨o,h1,h2⟩ htp e (fun z=>nomatch z) h
def rIsT (K:PySem.W.Frag):List V->Hp->VK->Prop:=fun xs H Q=>∃ x n d b,xs=[x,.ty n]/\Rep K H x d/\PySem.W.kitOne K (.type (tyD d)) (.type n)=some b/\Q (.bl b) H
theorem call_isT:CallR X (.builtin "isinstance") (rIsT X.K):=by
 intro pins s σ H xs us Q I r h
 obtain ⟨x,n,d,b,rfl,hr,e,q⟩:=h
 cases r with
 | cons r1 r=>
   cases r with
   | cons r2 r=>
     cases r
     cases (show _=Value.type n from r2)
     exact isD I hr r1 e fun tk=>⟨.bl b,H,I.tok tk,rfl,q⟩
def rIsT2 (K:PySem.W.Frag):List V->Hp->VK->Prop:=fun xs H Q=>∃ x a n m d b,xs=[x,.ref a]/\H a=some (.tup [.ty n,.ty m])/\Rep K H x d/\PySem.W.kitAny K (.type (tyD d)) [.type n,.type m]=some b/\Q (.bl b) H
theorem call_isT2:CallR X (.builtin "isinstance") (rIsT2 X.K):=by
 intro pins s σ H xs us Q I r h
 obtain ⟨x,a,n,m,d,b,rfl,ha,hr,e,q⟩:=h
 cases r with
 | cons r1 r=>
   cases r with
   | cons r2 r=>
     cases r
     cases (show _=Value.ref a from r2)
     obtain ⟨z,its,rv,o,h1,h2,k,h3⟩:=(show ObjOk X.prog X.w H s.heap a (.tup [.ty n,.ty m]) from I.hok a _ ha)
     obtain ⟨cls,dd,data,sl⟩:=o
     simp only at h2 h3
     subst h2 h3
     cases rv with
     | cons g1 rv=>
       cases rv with
       | cons g2 rv=>
         cases rv
         cases (show _=Value.type n from g1)
         cases (show _=Value.type m from g2)
         exact isD2 I hr r1 h1 e fun tk=>⟨.bl b,H,I.tok tk,rfl,q⟩
theorem bools_of {xs:List V} {us:List Value}:∀ {bs:List Bool},xs=bs.map V.bl->Vals xs us->us=bs.map Value.bool:=by
 intro bs e r
 induction bs generalizing xs us with
 |nil=>subst e;cases r;rfl
 | cons b t ih=>
   subst e
   cases r with
   |cons r1 r=>rw [List.map_cons,ih rfl r,(show _=Value.bool b from r1)]
theorem range_all (bs:List Bool):(List.range bs.length).all (fun i=>bs.getD i false)=bs.all id:=by
 induction bs with
 |nil=>rfl
 |cons b t ih=>rw [List.length_cons,List.range_succ_eq_map,List.all_cons,List.all_map,List.all_cons,← ih];rfl
theorem truth_bools {P:Program} {w:World} {A:Around} {bs:List Bool}:TruthOf P w A (fun i v=>((bs.map Value.bool).toArray)[i]?=some v) fun i=>bs.getD i false:=fun i v s Q E hP hQ=>by
 dsimp only at hP hQ
 rw [List.getElem?_toArray,List.getElem?_map] at hP
 cases e:bs[i]? with
 |none=>rw [e] at hP;cases hP
 | some b=>
   rw [e] at hP
   cases hP
   rw [List.getD_eq_getElem?_getD,e] at hQ
   exact wpAny_pure hQ
def rAllB (K:PySem.W.Frag) (f:List Bool->Bool):List V->Hp->VK->Prop:=fun xs H Q=>∃ a bs,xs=[.ref a]/\SqL K H a (bs.map V.bl)/\Q (.bl (f bs)) H
theorem call_allB (hh:X.calm=true):CallR X (.builtin "all") (rAllB X.K fun bs=>bs.all id):=by
 intro pins s σ H xs us Q I r h
 obtain ⟨a,bs,rfl,hq,q⟩:=h
 cases r with
 | cons r1 r=>
   cases r
   cases (show _=Value.ref a from r1)
   obtain ⟨its,rv,p,hz⟩:=I.list hq
   have e:=bools_of rfl rv
   subst e
   refine PySem.call_all_walk (wpAny_pyIter_list p.isList ?_)
   have hne:a≠s.heap.objs.size:=(by obtain ⟨o,ho,_⟩:=p.isList;exact Nat.ne_of_lt (Heap.lt_size ho))
   refine ⟨s.heap.objs.size,_,_,_,_,_,_,rfl,Walks.list (A:=X.A.in1) (I.ok.hd hh) s.heap.objs.size a hne (bs.map Value.bool).toArray,⟨⟨_,Heap.get?_push_size _ rfl,rfl,rfl⟩,?_⟩,truth_bools,fun h' tk hk=>?_⟩
   ·obtain ⟨o,ho,hc,n,hd⟩:=p.isList
    exact ⟨o,Heap.get?_push_of_some _ ho,hc,n,hd⟩
   ·rw [List.size_toArray,List.length_map,range_all]
    exact ⟨.bl _,H,I.kept fun b o e=>hk b o (by simp;exact Nat.ne_of_lt (Heap.lt_size e)) (Heap.get?_push_of_some _ e),rfl,q⟩
theorem strs_of {us:List Value}:∀ {ys:List Str},Vals (ys.map V.str) us->StrsAre us ys:=by
 intro ys
 induction ys generalizing us with
 |nil=>intro r;cases r;exact .nil
 | cons y t ih=>
   intro r
   cases r with
   | cons r1 r=>
     obtain ⟨tk,e⟩:=(show ∃ t,_=Value.str y t from r1)
     subst e
     exact .cons _ _ (ih r)
def rJoin (K:PySem.W.Frag):V->List V->Hp->VK->Prop:=fun x vs H Q=>∃ z a ys,x=.str z/\vs=[.ref a]/\SqL K H a (ys.map V.str)/\(ys.map (·.length)).sum+ys.length*z.length≤16777216/\Q (.str (Txt.join z ys)) H
theorem mt_join:MtR X "str.join" (rJoin X.K):=by
 intro pins s σ H x vs v us Q I rx rv h
 obtain ⟨z,a,ys,rfl,rfl,hq,hl,q⟩:=h
 obtain ⟨t,e⟩:=(show ∃ t,v=Value.str z t from rx)
 subst e
 cases rv with
 | cons r1 r=>
   cases r
   cases (show _=Value.ref a from r1)
   obtain ⟨its,rs,p,hz⟩:=I.list hq
   exact join_list p.isList (by simpa using strs_of rs) hl fun t' k=>⟨.str _,H,I.tok k,⟨t',rfl⟩,q⟩
def rS0 (f:Str->Bool):V->List V->Hp->VK->Prop:=fun x vs H Q=>∃ z,x=.str z/\vs=[]/\Q (.bl (f z)) H
theorem mt_isascii:MtR X "str.isascii" (rS0 fun x=>x.cps.all (·<128)):=by
 intro pins s σ H x vs v us Q I rx rv h
 obtain ⟨z,rfl,rfl,q⟩:=h
 obtain ⟨t,e⟩:=(show ∃ t,v=Value.str z t from rx)
 subst e
 cases rv
 exact call_gives PySem.F.slot_str_isascii (typeIs_str _ _ _) PySem.F.entry_str_isascii (PySem.F.args_str_isascii_1 _) (gives_str_isascii z t) ⟨.bl _,H,I,rfl,q⟩
theorem mt_isalpha:MtR X "str.isalpha" (rS0 fun x=>x.length > 0 && x.cps.all Unicode.isAlpha):=by
 intro pins s σ H x vs v us Q I rx rv h
 obtain ⟨z,rfl,rfl,q⟩:=h
 obtain ⟨t,e⟩:=(show ∃ t,v=Value.str z t from rx)
 subst e
 cases rv
 exact call_gives PySem.F.slot_str_isalpha (typeIs_str _ _ _) PySem.F.entry_str_isalpha (PySem.F.args_str_isalpha_1 _) (gives_str_isalpha z t) ⟨.bl _,H,I,rfl,q⟩
theorem mt_islower:MtR X "str.islower" (rS0 fun x=>x.cps.any Unicode.isLower && !x.cps.any fun c=>Unicode.isUpper c || Unicode.isTitle c):=by
 intro pins s σ H x vs v us Q I rx rv h
 obtain ⟨z,rfl,rfl,q⟩:=h
 obtain ⟨t,e⟩:=(show ∃ t,v=Value.str z t from rx)
 subst e
 cases rv
 exact call_gives PySem.F.slot_str_islower (typeIs_str _ _ _) PySem.F.entry_str_islower (PySem.F.args_str_islower_1 _) (gives_str_islower z t) ⟨.bl _,H,I,rfl,q⟩
end
structure CompS (osc:Scope) (N:List Str) (scope:Scope) (own:List Str) (js:List Nat) (N':List Str):Prop where
 kind:scope.kind=.function
 nocell:∀ y∈scope.names,y.2≠.cell
 names:∀ y∈scope.names,y.2=.local->scope.names.lookup y.1=some .local
 free:∀ y∈scope.names,y.2=.free->osc.names.lookup y.1=some .cell∨osc.names.lookup y.1=some .free
 nm:N'=own++js.map fun j=>N.getD j Str.empty
 fr:∀ j∈js,j<N.length/\(N.getD j Str.empty,NameKind.free)∈scope.names/\∀ y∈scope.names,y.1=N.getD j Str.empty->y.2=.free
theorem CompScope.of {X:Cx} {osc scope:Scope} {N own N':List Str} {js:List Nat} (h1:X.env.scope=osc) (h2:X.N=N) (h:CompS osc N scope own js N'):CompScope X scope own js N':=by
 subst h1 h2
 exact ⟨h.kind,h.nocell,h.names,h.free,h.nm,fun j hj=>⟨(h.fr j hj).1,(h.fr j hj).2.1,fun k hk=>(h.fr j hj).2.2 _ hk rfl⟩⟩
mutual
def pdMax:PyData->Nat
 |.tuple xs=>max xs.length (pdMaxs xs)
 |.list xs=>max xs.length (pdMaxs xs)
 |_=>0
def pdMaxs:List PyData->Nat
 |[]=>0
 |d::r=>max (pdMax d) (pdMaxs r)
end
theorem pdMax_le {e:PyData}:∀ {es:List PyData},e∈es->pdMax e≤pdMaxs es
 |_::_,.head _=>by simp only [pdMaxs];omega
 |_::r,.tail _ h=>by have:=pdMax_le h;simp only [pdMaxs];omega
theorem pe_ty {X:Cx} {x:Str} {n:String} {pos:Pos} (hg:Gl X x) (hm:X.mg x=none) (hv:bootBuiltins x=some (.type n)) (hn:x ≠ "__name__":=by decide) (hd:(x == ("__debug__" : Str))=false:=by decide):PE X (.Name x pos) (tC (.ty n)):=pe_bltn (v:=.ty n) hg hm hv rfl hn hd
theorem ifT {c:Bool} {A B:Prop} (h:c=true) (q:A):if c=true then A else B:=by rw [if_pos h];exact q
theorem ifF {c:Bool} {A B:Prop} (h:c=false) (q:B):if c=true then A else B:=by rw [if_neg (by rw [h];exact Bool.false_ne_true)];exact q
section
variable {X:Cx} {a b c d:Expr} {ta tb tc td:TE} {pos:Pos}
end
abbrev TF:=Str->St->Hp->VK->Prop
def PF (X:Cx) (es:List Expr) (t:TF):Prop:=
 ∀ (out:Str) (pins:List (Addr×Obj)) (s:Shared) (σ:St) (H:Hp) (Q:VK),Inv X pins σ H s->t out σ H Q->wpAny (model X.prog X.w) X.A (joinParts out (evalEach es X.env)) (EP X pins σ Q) X.xe s
def FmtV (x:V) (y:Str):Prop:=(x=.str y/\y.length≤sizeLine)∨∃ i:Int,x=.int i/\i.natAbs.log2<1920/\y=Str.ofString (toString i)
section
variable {X:Cx} {es:List Expr} {t:TF} {e:Expr} {te:TE} {pos:Pos}
theorem pf_nil:PF X [] (fun out _ H Q=>out.length≤sizeLine/\Q (.str out) H):=fun out pins s σ H Q I h=>joinParts_nil ⟨.str out,H,I.tok _,⟨_,rfl⟩,h.2⟩ h.1
theorem pf_txt {x:Str} {j:Nat} (hr:PF X es t) (hs:evalEach (.Constant (.str x) j pos::es) X.env=eval (.Constant (.str x) j pos) X.env::evalEach es X.env:=by rfl) :
 PF X (.Constant (.str x) j pos::es) (fun out σ H Q=>(out++x).length≤sizeLine/\t (out++x) σ H Q):=by
 intro out pins s σ H Q I h
 rw [hs]
 exact joinParts_cons (Calls.Constant_str ⟨h.1,hr (out++x) pins _ σ H Q (I.tok _) h.2⟩)
theorem pf_val (he:PE X e te) (hr:PF X es t) (hs:evalEach (.FormattedValue e (-1) none pos::es) X.env=eval (.FormattedValue e (-1) none pos) X.env::evalEach es X.env:=by rfl) :
 PF X (.FormattedValue e (-1) none pos::es) (fun out σ H Q=>te σ H fun x H1=>∃ y,FmtV x y/\(out++y).length≤sizeLine/\t (out++y) σ H1 Q):=by
 intro out pins s σ H Q I h
 rw [hs]
 refine joinParts_cons (FormattedValue_plain (thn (he pins s σ H _ I h) fun v s1 ⟨x,H1,I1,r1,y,fm,hl,q⟩=>?_))
 rcases fm with ⟨rfl,hy⟩|⟨i,rfl,hi,rfl⟩
 ·obtain ⟨tk,rfl⟩:=r1
  exact formatField_str (fun t' tk=>⟨hl,hr _ pins _ σ H1 Q (I1.tok tk) q⟩) hy
 ·obtain ⟨tk,rfl⟩:=r1
  exact formatField_int_small hi ⟨hl,hr _ pins _ σ H1 Q (I1.tok _) q⟩
def tFstr (t:TF):TE:=fun σ H Q=>t Str.empty σ H Q
theorem pe_fstr {e1 e2:Expr} (h:PF X (e1::e2::es) t) (hs:evalEach (e1::e2::es) X.env=eval e1 X.env::eval e2 X.env::evalEach es X.env:=by rfl):PE X (.JoinedStr (e1::e2::es) pos) (tFstr t):=by
 intro pins s σ H Q I hw
 refine JoinedStr_many ?_
 rw [← hs]
 exact h _ pins s σ H Q I hw
end
section
variable {X:Cx} {CX:CXT} {k:Nat} {f C:Addr} {fd:FuncData} {ps:List Str} {sp:Sp} {E:XK}
theorem run_fnA {A':Around} {pins:List (Addr×Obj)} {σ:St} {H:Hp} {s:Shared} {Q:VK} {us:List Value} {vs:List V} (F:FnOk X.prog X.w X.K X.mg X.base CX k f fd ps sp) (hr:Room k A') (hfr:A'.frames=X.A.frames) (hb:Binds X.K fd ps []) (hx:Passes CX X E)
 (I:Inv X pins σ H s) (r:Vals vs us) (h:sp vs H Q E):wpAny (model X.prog X.w) A' (call (.ref f) us) (EP X pins σ Q) X.xe s:=by
 have hl:us.length=ps.length:=r.length.symm.trans (F.len _ _ _ _ h)
 have hb':=hb s us I.kIn (by rw [List.append_nil];exact hl)
 rw [List.append_nil] at hb'
 have e0:=I.env0
 refine wpAny_call (codeAny_mono (F.run A' X.stack s H ⟨us,[]⟩ us vs Q E hr ⟨hfr.trans e0.frames,e0.mod,e0.bs,e0.bsz,e0.funs,e0.frf,e0.hok,e0.bare⟩ hb' r h) fun z s' hq=>?_)
 match z,hq with
 |.error e,hq=>exact hx pins σ H s e s' I hq
 |.ok (.ret u),hq=>exact I.after hq
structure SpM (X:Cx) (CX:CXT) (E:XK) (C:Addr) (name:Str) (k:Nat) (f:Addr) (fd:FuncData) (ps:List Str) (sp:Sp):Prop where
 at_:PySem.W.findIn X.K (.ref C) name=some (some (.ref f))
 fn:PySem.W.isFn X.K (.ref f)=true
 ok:FnOk X.prog X.w X.K X.mg X.base CX k f fd ps sp
 b:Binds X.K fd ps []
 ps:Passes CX X E
theorem Inv.inst {pins:List (Addr×Obj)} {σ:St} {H:Hp} {s:Shared} {a dx:Addr} {fs:List (Str×V)} (I:Inv X pins σ H s) (e:H a=some (.ins C dx fs)):∃ od,PySem.W.InstAt s.heap a (PySem.W.instObj C dx) C (some od):=by
 obtain ⟨mA,O,_⟩:=ins_get I.hok e
 obtain ⟨od,J,_⟩:=O.look
 exact ⟨od,J⟩
theorem len_back {pins:List (Addr×Obj)} {σ:St} {Q:VK} {v:Value} {s':Shared} (h:EP X pins σ (fun v H'=>∃ n:Nat,v=.int n/\n<1000000/\Q (.int n) H') v s'):PySem.W.LenBack (EP X pins σ Q) v s':=by
 obtain ⟨y,H',I,r,n,rfl,hn,q⟩:=h
 obtain ⟨t,rfl⟩:=r
 exact ⟨⟨Int.natCast_nonneg _,by omega⟩,⟨.int n,H',I.tok _,⟨_,rfl⟩,q⟩⟩
def rLenI (C:Addr) (sp:Sp) (E:XK):List V->Hp->VK->Prop:=fun xs H Q=>∃ a dx fs,xs=[.ref a]/\H a=some (.ins C dx fs)/\sp [.ref a] H (fun v H'=>∃ n:Nat,v=.int n/\n<1000000/\Q (.int n) H') E
theorem call_lenI (S:SpM X CX E C "__len__" k f fd ps sp) (hr:Room (k+1) X.A):CallR X (.builtin "len") (rLenI C sp E):=by
 intro pins s σ H xs us Q I r h
 obtain ⟨a,dx,fs,rfl,ha,q⟩:=h
 obtain ⟨u,rfl,e⟩:=vals1 r
 cases (show u=Value.ref a from e)
 obtain ⟨od,J⟩:=I.inst ha
 obtain ⟨m,F⟩:=I.fr
 exact PySem.W.len_K F I.ok.mod.kin J S.at_ S.fn (thn (run_fnA (us:=[.ref a]) (vs:=[.ref a]) S.ok hr.in1 rfl S.b S.ps I (.cons rfl .nil) q) fun _ _=>len_back)
end
end L2
namespace HT
open PySem PySem.Spec PyProof.Rows
section
variable {prog:Program} {w:World} {A:Around} {E:Value->Shared->Prop} {s:Shared}
theorem cat_nil {t b:Addr} {ws:List Value} {Q:Value->Shared->Prop} (ht:IsTup s.heap t #[]) (hb:IsTup s.heap b ws.toArray) (h:Q (.ref b) s):wpAny (model prog w) A (binaryOp .Add (.ref t) (.ref b)) Q E s:=by
 obtain ⟨⟨_,dd,_,sl⟩,ho,rfl,n,rfl⟩:=id ht
 obtain ⟨⟨_,dd2,_,sl2⟩,ho2,rfl,n2,rfl⟩:=id hb
 exact concat_meets ⟨_,ho,rfl⟩ ⟨_,ho2,rfl⟩ noFill_tuple_add seq_tuple_add PySem.F.slot_tuple_add PySem.F.entry_tuple_add (PySem.F.args_tuple_add_2 _ _) (tuple_addW0 t b #[] ws.toArray n n2 dd dd2 sl sl2 rfl) ⟨ho,ho2,h⟩
theorem tup_slice {t sl:Addr} {items:Array Value} {a b c:Value} {lo step:Int} {n:Nat} {Q:Value->Shared->Prop} (ht:IsTup s.heap t items) (hs:s.heap.IsSliceOf sl a b c)
 (ha:∀ (A':Around) (Q':Int×Int×Nat->Shared->Prop) (E':Value->Shared->Prop),Q' (lo,step,n) s->wpAny (model prog w) A' (Builtin.Slice.sliceApplied (.ref sl) (pure (items.size:Int))) Q' E' s)
 (h1:(lo == 0 && step == 1 && n == items.size)=true->Q (.ref t) s)
 (h2:¬ (lo == 0 && step == 1 && n == items.size)=true->((List.range n).filterMap fun (k:Nat)=>items[(lo+(k:Int)*step).toNat]?).length≤sizeLine/\
  Q (.ref s.heap.objs.size) { s with heap:=s.heap.push { cls:=.type "tuple",data:=.seq ((List.range n).filterMap fun (k:Nat)=>items[(lo+(k:Int)*step).toNat]?).toArray } }) :
 wpAny (model prog w) A (getItem (.ref t) (.ref sl)) Q E s:=by
 obtain ⟨so,hso,hsc,hsd⟩:=id hs
 have hty:s.TypeIs (.ref sl) "slice":=⟨so,hso,hsc⟩
 obtain ⟨to,hto,htc,nt,htd⟩:=id ht
 unfold getItem
 try with_reducible refine wpAny_holding ?_
 first|refine wpAny_bind (wpAny_pure ?_)|skip
 refine wpAny_bind (wpAny_sequenceKey ht.typeIs (by decide) (wpAny_bind (wpAny_callSpecial?_slot (name:=Str.ofString "__getitem__") ht.typeIs PyProof.Rows.slot_tuple_getitem (wpAny_call_entry PyProof.Rows.slot_tuple_getitem ht.typeIs entry_tuple_getitem ?_ (args_tuple_getitem _ _)))))
 show wpAny _ _ (Builtin.Tuple.tupleItemsOf (.ref t) >>= _) _ _ s
 refine wpAny_bind (tupleItemsOf_ ht (wpAny_bind (wpAny_typeOf hty ?_)))
 rw [if_pos (by decide)]
 refine wpAny_bind (ha _ _ _ ?_)
 show wpAny _ _ (if (lo == 0 && step == 1 && n == items.size)=true then _ else _) _ _ s
 by_cases hw:(lo == 0 && step == 1 && n == items.size)=true
 ·rw [if_pos hw]
  have hx:wpAny (model prog w) A.in1 (Builtin.Tuple.tupleIsExact (.ref t)) (fun b s'=>b=true/\s'=s) E s:=by
   unfold Builtin.Tuple.tupleIsExact
   refine wpAny_bind (wpAny_typeOf_ref hto ?_)
   rw [htc]
   exact wpAny_pure ⟨rfl,rfl⟩
  first
   |refine wpAny_bind (wpAny_mono hx (fun b s' h'=>?_) fun _ _ z=>z)
   |refine wpAny_bind (wpAny_bind (wpAny_mono hx (fun b s' h'=>?_) fun _ _ z=>z))
  obtain ⟨rfl,rfl⟩:=h'
  rw [if_pos rfl]
  first
   |exact wpAny_bind (wpAny_rule (wpAny_pure ⟨_,rfl,wpAny_pure (h1 hw)⟩))
   |exact wpAny_bind (wpAny_rule (wpAny_bind (wpAny_pure (wpAny_pure ⟨_,rfl,wpAny_pure (h1 hw)⟩))))
 ·rw [if_neg hw]
  obtain ⟨hz,hq⟩:=h2 hw
  have hok:sizeOk (.seq ((List.range n).filterMap fun (k:Nat)=>items[(lo+(k:Int)*step).toNat]?).toArray):=by
   show (_:Array Value).size≤sizeLine
   rw [List.size_toArray];exact hz
  first
   |exact wpAny_bind (m:=Builtin.Tuple.tupleExact _) (wpAny_newObj_type (wpAny_pure ⟨_,rfl,wpAny_pure hq⟩) hok)
   |exact wpAny_bind (m:=Builtin.Tuple.tupleExact _) (wpAny_newObj_type (wpAny_bind (wpAny_pure (wpAny_pure ⟨_,rfl,wpAny_pure hq⟩))) hok)
   |exact wpAny_bind (wpAny_bind (m:=Builtin.Tuple.tupleExact _) (wpAny_newObj_type (wpAny_pure (wpAny_pure ⟨_,rfl,wpAny_pure hq⟩)) hok))
end
end HT
namespace L2
open PySem PySem.Spec PyProof.Rows PySem.SeqAt
section
variable {X:Cx}
def rCatA (K:PySem.W.Frag):R2:=fun x y H Q=>∃ a b xs ys,x=.ref a/\y=.ref b/\SqT K H a xs/\SqT K H b ys/\xs.length+ys.length≤sizeLine/\(xs=[]->Q (.ref b) H)/\(ys=[]->Q (.ref a) H)/\∀ p,H p=none->Q (.ref p) (upd H p (.tup (xs++ys)))
theorem op_catA:OpR X (binaryOp .Add) (rCatA X.K):=by
 intro pins s σ H x y v u Q I rx ry h
 obtain ⟨a,b,xs,ys,rfl,rfl,ha,hb,hz,q0,q1,q2⟩:=h
 by_cases hx:xs=[]
 ·subst hx
  cases (show v=Value.ref a from rx)
  cases (show u=Value.ref b from ry)
  obtain ⟨its,r1,p1,_⟩:=I.tuple ha
  obtain ⟨its2,r2,p2,_⟩:=I.tuple hb
  cases r1
  exact HT.cat_nil p1 p2 ⟨.ref b,H,I,rfl,q0 rfl⟩
 ·refine op_catT pins s σ H _ _ v u Q I rx ry ⟨a,b,xs,ys,rfl,rfl,ha,hb,hx,hz,q1,fun _=>q2⟩
def rSlW (K:PySem.W.Frag):V->Option Int->Option Int->Hp->VK->Prop:=fun x lo hi H Q=>∃ a xs,x=.ref a/\SqT K H a xs/\(cutV xs lo hi=xs->Q (.ref a) H)/\∀ p,H p=none->Q (.ref p) (upd H p (.tup (cutV xs lo hi)))
theorem sl_tupW:SlR X (rSlW X.K):=by
 intro pins s σ H x v vl vu lo hi sl Q I rx hs pl pu h
 obtain ⟨a,xs,rfl,hx,q1,q2⟩:=h
 by_cases hw:HT.sIx xs.length 0 lo=0/\HT.sIx xs.length xs.length hi=xs.length
 ·cases (show v=Value.ref a from rx)
  obtain ⟨its,r,ht,hz⟩:=I.tuple hx
  have hlen:its.toArray.size=xs.length:=by rw [List.size_toArray];exact r.length.symm
  refine ⟨"tuple",_,PyProof.Rows.slot_tuple_getitem.lookup,ht.typeIs,?_⟩
  have e:cutV xs lo hi=xs:=by
   unfold cutV
   rw [hw.1,hw.2,List.drop_zero,Nat.sub_zero,List.take_length]
  refine HT.tup_slice ht hs (fun A' Q' E' q'=>HT.sliceApplied_gen hs pl pu q') (fun _=>⟨.ref a,H,I,rfl,q1 e⟩) fun hn=>(hn ?_).elim
  rw [hlen,hw.1,hw.2]
  simp
 ·exact sl_tup pins s σ H _ v vl vu lo hi sl Q I rx hs pl pu ⟨a,xs,rfl,hx,hw,q2⟩
end
structure ShowD (d:PyData):Prop where
 sh:d.showable=true
 nd:d.hasDict=false
 dp:d.depth≤40
 sz:d.shown.length≤sizeLine
section
variable {X:Cx}
def onRef:V->Bool
 |.ref _=>true
 |.str _=>true
 |_=>false
theorem pyrepr {A':Around} {pins:List (Addr×Obj)} {σ:St} {H:Hp} {s:Shared} {Q:VK} {x:V} {u:Value} {d:PyData} {E:Value->Shared->Prop} (hu:A'.units+64<cLine) (hg:A'.guards=some []) (I:Inv X pins σ H s) (e:RelV x u) (ho:onRef x=true) (hr:Rep X.K H x d) (sd:ShowD d) (q:Q (.str d.shown) H) :
 wpAny (model X.prog X.w) A' (pyReprObj u) (EP X pins σ Q) E s:=by
 have dp:=sd.dp
 match x,ho,hr,e with
 | .ref a,_,hr,e=>
   cases (show u=Value.ref a from e)
   obtain ⟨as,rd⟩:=I.reads hr rfl
   exact pyReprObj_of_reads rd sd.sh (PyData.noDict_hsm sd.nd) hg (by omega) (fun _ _ z=>z) (fun h' t tk hk=>⟨.str d.shown,H,I.kept hk,⟨_,rfl⟩,q⟩) sd.sz
 | .str z,_,hr,e=>
   obtain ⟨t,rfl⟩:=e
   cases hr
   exact wpAny_pyReprObj_str ⟨.str (reprText z),H,I.tok _,⟨_,rfl⟩,q⟩ sd.sz
theorem pf_repr {es:List Expr} {t:TF} {e:Expr} {te:TE} {pos:Pos} (hu:X.A.units+64<cLine) (hg:X.A.guards=some []) (he:PE X e te) (hr:PF X es t) (hs:evalEach (.FormattedValue e 114 none pos::es) X.env=eval (.FormattedValue e 114 none pos) X.env::evalEach es X.env:=by rfl) :
 PF X (.FormattedValue e 114 none pos::es) (fun out σ H Q=>te σ H fun x H1=>∃ d,onRef x=true/\Rep X.K H1 x d/\ShowD d/\(out++d.shown).length≤sizeLine/\t (out++d.shown) σ H1 Q):=by
 intro out pins s σ H Q I h
 rw [hs]
 refine joinParts_cons (wpAny_FormattedValue_repr (thn (he pins s σ H _ I h) fun v s1 ⟨x,H1,I1,r1,d,ho,hd,sd,hl,q⟩=>?_))
 refine thn (pyrepr (Q:=fun y H2=>y=.str d.shown/\H2=H1) hu hg I1 r1 ho hd sd ⟨rfl,rfl⟩) fun v2 s2 ⟨y,H2,I2,r2,e1,e2⟩=>?_
 subst e1 e2
 obtain ⟨tk,rfl⟩:=r2
 exact formatField_str (fun t' tk=>⟨hl,hr _ pins _ σ H2 Q (I2.tok tk) q⟩) sd.sz
end
section
variable {X:Cx} {CX:CXT} {k:Nat} {f C:Addr} {fd:FuncData} {ps:List Str} {sp:Sp} {E:XK}
theorem len_body {prog:Program} {w:World} {A:Around} {Er:Value->Shared->Prop} {s:Shared} {K:PySem.W.Frag} {x:Addr} {ox:Obj} {od:Option Obj} {Q:Value->Shared->Prop} (Xk:K.In s.heap) (J:PySem.W.InstAt s.heap x ox C od) (hs:PySem.W.findIn K (.ref C) "__len__" = some (some (.ref f)))
 (hf:PySem.W.isFn K (.ref f)=true) (h:wpAny (model prog w) A (call (.ref f) [.ref x]) (PySem.W.LenBack Q) Er s):wpAny (model prog w) A (Builtin.«len» ⟨[.ref x],[]⟩) (fun fin s'=>∃ r,fin=.done (.ret r)/\Q r s') Er s:=by
 unfold Builtin.«len»
 refine wpAny_bind (m:=oneArg "len" _) (wpAny_pure (wpAny_bind (m:=callSpecial? (.ref x) (Str.ofString "__len__")) (PySem.W.special_fn Xk J hs (beq_iff_eq.mp hf) (wpAny_mono h (fun r s' hr=>?_) fun _ _ y=>y))))
 match r,hr with
 | .int n u,⟨⟨h0,h1⟩,hq⟩=>
   refine wpAny_bind (wpAny_holding (wpAny_pure (wpAny_bind (wpAny_letGo ?_))))
   show wpAny _ _ (if n<0 then _ else _) _ _ _
   rw [if_neg (by omega)]
   show wpAny _ _ (if n ≥ 2 ^ 63 then _ else _) _ _ _
   rw [if_neg (by omega)]
   exact wpAny_bind (wpAny_mkInt (wpAny_pure ⟨_,rfl,hq⟩))
def rBoolI (C:Addr) (sp:Sp) (E:XK):List V->Hp->VK->Prop:=fun xs H Q=>∃ a dx fs,xs=[.ref a]/\H a=some (.ins C dx fs)/\sp [.ref a] H (fun v H'=>∃ n:Nat,v=.int n/\n<1000000/\Q (.bl (n != 0)) H') E
theorem truthy_I {A:Around} {pins:List (Addr×Obj)} {σ:St} {H:Hp} {s:Shared} {Q:VK} {a dx:Addr} {fs:List (Str×V)} (S:SpM X CX E C "__len__" k f fd ps sp) (hnb:PySem.W.findIn X.K (.ref C) "__bool__" = some none) (hr:Room (k+1) A) (hfr:A.frames=X.A.frames) (I:Inv X pins σ H s) (ha:H a=some (.ins C dx fs))
 (q:sp [.ref a] H (fun v H'=>∃ n:Nat,v=.int n/\n<1000000/\Q (.bl (n != 0)) H') E):wpAny (model X.prog X.w) A (truthy (.ref a)) (fun b s'=>EP X pins σ Q (.bool b) s') X.xe s:=by
 obtain ⟨od,J⟩:=I.inst ha
 have run:=run_fnA (A':=A.in1) (us:=[.ref a]) (vs:=[.ref a]) S.ok hr.in1 hfr S.b S.ps I (.cons rfl .nil) q
 have key:wpAny (model X.prog X.w) A (runValue (.builtin "len" ⟨[.ref a],[]⟩)) (fun r s'=>∃ (n:Nat) (t:Tok),r=.int n t/\EP X pins σ Q (.bool ((n:Int) != 0)) s') X.xe s:=by
  refine wpAny_runValue (codeAny_builtin entry_len ?_)
  rw [Around.under_plainId plain_len _]
  refine wpAny_mono (len_body (Q:=fun r s'=>∃ (n:Nat) (t:Tok),r=.int n t/\EP X pins σ Q (.bool ((n:Int) != 0)) s') I.kIn J S.at_ S.fn (wpAny_mono run (fun r s' hr=>?_) fun _ _ z=>z)) (fun fin s' h'=>by obtain ⟨r,rfl,hq⟩:=h';exact hq) fun _ _ e=>e
  obtain ⟨_,H',I',r',n,rfl,hn,q'⟩:=hr
  obtain ⟨t,rfl⟩:=r'
  refine ⟨⟨Int.natCast_nonneg _,by omega⟩,n,_,rfl,.bl (n != 0),H',I'.tok _,?_,q'⟩
  show Value.bool ((n:Int) != 0)=Value.bool (n != 0)
  congr 1
  rw [Bool.eq_iff_iff];simp
 unfold truthy
 refine wpAny_bind (m:=callSpecial? (.ref a) (Str.ofString "__bool__")) (wpAny_bind (wpAny_bind (J.type.here ((PySem.W.looks_findIn I.kIn hnb).here (wpAny_pure ?_)))))
 refine wpAny_bind (wpAny_bind (J.type.here ((PySem.W.looks_findIn I.kIn S.at_).here ?_)))
 refine wpAny_bind (wpAny_mono key (fun r s' hr=>?_) fun _ _ z=>z)
 obtain ⟨n,t,rfl,q'⟩:=hr
 exact wpAny_pure q'
theorem call_boolI (S:SpM X CX E C "__len__" k f fd ps sp) (hnb:PySem.W.findIn X.K (.ref C) "__bool__" = some none) (hr:Room (k+3) X.A):CallR X (.type "bool") (rBoolI C sp E):=by
 intro pins s σ H xs us Q I r h
 obtain ⟨a,dx,fs,rfl,ha,q⟩:=h
 obtain ⟨u,rfl,e⟩:=vals1 r
 cases (show u=Value.ref a from e)
 have g:MeetsIn X.prog X.w (Builtin.«bool.__new__» ⟨[.type "bool",.ref a],[]⟩) (fun A R s=>wpAny (model X.prog X.w) A.in1 (truthy (.ref a)) (fun b s'=>R (.ok (.ret (.bool b))) s') (fun e s'=>R (.error e) s') s):=
  MeetsIn.of_wp fun A R s hs=>by
   obtain ⟨hp,g,d,tk,os⟩:=s
   have f1:=F.conv_sub_bool
   have hs':wpAny (model X.prog X.w) A.in1 (truthy (.ref a)) (fun b s'=>wpAny (model X.prog X.w) A.in1 (ret (.bool b)) (fun fin s'=>∃ v,fin=.done (.ret v)/\R (.ok (.ret v)) s') (fun e s'=>R (.error e) s') s') (fun e s'=>R (.error e) s') ⟨hp,g,d,tk,os⟩:=
    wpAny_mono hs (fun b s' hb=>wpAny_pure ⟨_,rfl,hb⟩) fun _ _ z=>z
   repeat (any_goals (first|assumption|(with_reducible exact hs')|wp_step))
 exact callType_newIn F.called_bool F.newNe_bool (F.typeCall_bool_1 _) (F.newCall_bool_1 _) (fun obj=>F.args_object_init_2 obj _) F.entry_bool_new g (thn (truthy_I (A:=X.A.in1.in1) S hnb hr.in1.in1 rfl I ha q) fun b s' z=>⟨rfl,z⟩)
end
section
variable {X:Cx} {pins:List (Addr×Obj)} {σ:St} {H:Hp} {s:Shared} {h':Heap}
theorem Inv.turnLaid {a:Addr} {o:HO} {t':Nat} {fp:List Addr} (I:Inv X pins σ H s) (k:∀ b u,b∉fp->s.heap.get? b=some u->h'.get? b=some u) (ke:∀ b∈fp,∃ u,h'.get? b=some u) (hf:∀ b∈fp,FpOk X pins H b) (hp:s.heap.objs.size≤a) (new:ObjOk X.prog X.w (upd H a o) h' a o) :
 Inv X pins σ (upd H a o) { s with heap:=h',toks:=t' }:=by
 have hn:H a=none:=I.hok.fresh hp
 have off:∀ b u,H b=some u->b∉fp:=fun b u e z=>by rw [(hf b z).1] at e;cases e
 have up:∀ b u,H b=some u->(upd H a o) b=some u:=fun b u e=>by rw [upd_ne (ne_of_none e hn)];exact e
 refine I.step (g':=s.gens) (d':=s.drawn) (ch:=fp) (fun b hb=>?_) (fun b u _ _ hc e _=>k b u hc e) (fun b u _ _ hc e _=>⟨u.slots,k b u hc e⟩) (fun b u _ e n=>?_) (fun b u hc e=>⟨u,k b u hc e⟩) (fun b xs e=>up b _ e) (fun b u z e=>up b _ e) (fun b ps e=>⟨#[],by rw [up b _ e];simp⟩) (fun m hm=>?_) (fun b u e=>?_) I.bare
 ·obtain ⟨_,f1,_,f3,f4,f5⟩:=hf b hb
  exact ⟨f3,f1,f4,f5⟩
 ·rw [upd_ne (Nat.ne_of_lt (Nat.lt_of_lt_of_le (Heap.lt_size e) hp))];exact n
 ·obtain ⟨u,es,ep,ho,r⟩:=hm
  exact ⟨u,es,ep,k _ u (fun z=>(hf _ z).2.1 rfl) ho,r⟩
 ·by_cases hb:b=a
  ·subst hb;rw [upd_same] at e;cases e;exact new
  ·rw [upd_ne hb] at e
   refine (I.hok b u e).stay (fun c v hc q=>k c v ?_ q) (fun c q=>up c _ q) fun c xs q=>up c _ q
   rcases hc with rfl|z
   ·exact off _ u e
   ·exact off c _ z
theorem next_tup {prog:Program} {w:World} {A:Around} {E:Value->Shared->Prop} {s:Shared} {it l:Addr} {i:Nat} {items:Array Value} {x:Value} {Q:Value->Shared->Prop} (hit:s.heap.IsTupleIter it l i) (hl:s.heap.IsTuple l items) (hx:items[i]?=some x)
 (hQ:∀ g,g.IsTupleIter it l (i+1)->Heap.SameBut it s.heap g->Q x { s with heap:=g }):wpAny (model prog w) A (Builtin.SmallTypes.nextOf (.ref it)) Q E s:=by
 obtain ⟨o,ho,hc,hd⟩:=id hit
 obtain ⟨ol,hol,_,nl,hdl⟩:=hl
 unfold Builtin.SmallTypes.nextOf
 refine wpAny_bind (wpAny_callSpecial?_slot (name:=Str.ofString "__next__") hit.typeIs F.slot_tuple_iterator_next (wpAny_call_entry F.slot_tuple_iterator_next hit.typeIs F.entry_tuple_iterator_next ?_ (F.args_tuple_iterator_next_1 _)))
 show wpAny _ _ (field (.ref it) 0 >>= _) _ _ s
 refine wpAny_bind (wpAny_field ho hd (x:=.ref l) rfl ?_)
 show wpAny _ _ (if (Value.ref l == Value.none)=true then _ else _) _ _ s
 rw [if_neg (show ¬ ((Value.ref l == Value.none)=true) from nofun)]
 show wpAny _ _ (field (.ref it) 1 >>= _) _ _ s
 refine wpAny_bind (wpAny_field ho hd (x:=.int i 0) rfl ?_)
 show wpAny _ _ (seqItems? (.ref l) >>= _) _ _ s
 refine wpAny_bind (wpAny_seqItems hol hdl ?_)
 simp only [Int.toNat_natCast,hx]
 refine wpAny_bind (wpAny_setField ho hd (by simp) (wpAny_pure ⟨x,rfl,wpAny_pure (hQ _ ⟨_,Heap.get?_update_self _ ho (Obj.isFreed_of_fields (Obj.data_mapFields hd _)),(Obj.cls_mapFields ..).trans hc,by rw [Obj.data_mapFields hd];simp [rawInt]⟩ (Heap.SameBut.update ..))⟩))
theorem next_tupE {prog:Program} {w:World} {A:Around} {E:Value->Shared->Prop} {s:Shared} {it l:Addr} {i:Nat} {items:Array Value} {Q:Value->Shared->Prop} (hh:A.handled=none) (hit:s.heap.IsTupleIter it l i) (hl:s.heap.IsTuple l items) (hx:items[i]?=none)
 (hE:∀ g e,Heap.ExtBut it s.heap g->(∃ o,g.get? e=some o/\o.cls=.type "StopIteration")->E (.ref e) { s with heap:=g }):wpAny (model prog w) A (Builtin.SmallTypes.nextOf (.ref it)) Q E s:=by
 obtain ⟨o,ho,hc,hd⟩:=id hit
 obtain ⟨ol,hol,_,nl,hdl⟩:=hl
 unfold Builtin.SmallTypes.nextOf
 refine wpAny_bind (wpAny_callSpecial?_slot (name:=Str.ofString "__next__") hit.typeIs F.slot_tuple_iterator_next (wpAny_call_entry F.slot_tuple_iterator_next hit.typeIs F.entry_tuple_iterator_next ?_ (F.args_tuple_iterator_next_1 _)))
 show wpAny _ _ (field (.ref it) 0 >>= _) _ _ s
 refine wpAny_bind (wpAny_field ho hd (x:=.ref l) rfl ?_)
 show wpAny _ _ (if (Value.ref l == Value.none)=true then _ else _) _ _ s
 rw [if_neg (show ¬ ((Value.ref l == Value.none)=true) from nofun)]
 show wpAny _ _ (field (.ref it) 1 >>= _) _ _ s
 refine wpAny_bind (wpAny_field ho hd (x:=.int i 0) rfl ?_)
 show wpAny _ _ (seqItems? (.ref l) >>= _) _ _ s
 refine wpAny_bind (wpAny_seqItems hol hdl ?_)
 simp only [Int.toNat_natCast,hx]
 refine wpAny_bind (wpAny_rule (wpAny_bind (wpAny_setField ho hd (by simp) ?_)))
 show wpAny _ _ (newExc (.type "StopIteration") [] >>= _) _ _ _
 refine wpAny_bind ?_
 simp only [newExc,newTuple]
 refine wpAny_bind (wpAny_newObj_type ?_ (by size_fits))
 refine wpAny_bind (m:=firstArgMember _ _) (wpAny_of_eq (a:=Value.none) (by first|rfl|(simp only [firstArgMember];rfl)) (wpAny_newObj_type ?_ (by size_fits)))
 simp only [raiseNew]
 refine wpAny_bind (wpAny_handled ?_)
 first|rw [show A.in1.handled=none from hh]|rw [hh]
 exact wpAny_bind (wpAny_pure (wpAny_throw (hE _ _ (((Heap.SameBut.update ..).extBut.push _).push _) ⟨_,Heap.get?_push_size _ rfl,rfl⟩)))
theorem drawsT {prog:Program} {w:World} {A:Around} (hh:A.handled=none) (it l:Addr) (hne:l≠it) (items:Array Value):Draws prog w A it [it,l] items.size (fun i v=>items[i]?=some v) (fun i h=>h.IsTupleIter it l i/\h.IsTuple l items) where
 live:=fun _ _ st=>let ⟨o,ho,_⟩:=st.1;⟨o,ho⟩
 frame:=fun _ _ _ st hk=>⟨st.1.at fun o e=>hk it (by simp) o e,let ⟨o,e,r⟩:=st.2;⟨o,hk l (by simp) o e,r⟩⟩
 item:=fun i s Q E hi st hQ=>next_tup st.1 st.2 (x:=items[i]) (by simp [hi]) fun g g1 g2=>hQ _ g s.toks (by simp [hi]) ⟨g1,let ⟨o,e,r⟩:=st.2;⟨o,(g2.2 l hne).trans e,r⟩⟩ g2
 done:=fun s Q E st hE=>next_tupE hh st.1 st.2 (by simp) hE
theorem new_enumT (l:Addr) (items:Array Value) (n:Nat) (dct:Option Addr) (sl:Array (Option Value)) :
 Meets (Builtin.«enumerate.__new__» ⟨[.type "enumerate",.ref l],[]⟩) (fun _ R s=>s.heap.get? l=some { cls:=.type "tuple",dict:=dct,data:=.seq items n,slots:=sl }/\
  R (.ok (.ret (.ref (s.heap.push { cls:=.type "tuple_iterator",data:=.fields #[.ref l,.int 0 0] }).objs.size)))
    { s with heap:=(s.heap.push { cls:=.type "tuple_iterator",data:=.fields #[.ref l,.int 0 0] }).push { cls:=.type "enumerate",data:=.fields #[.none,.bool false,.ref s.heap.objs.size,rawInt 0,.none,.none] } }):=
 .of_wp fun prog w A R s h=>by
  obtain ⟨hp,g,d,tk,os⟩:=s
  obtain ⟨hl,h⟩:=h
  have hsub:=sub_enumerate
  have hL:Heap.IsTuple (Shared.heap ⟨hp,g,d,tk,os⟩) l items:=⟨_,hl,rfl,n,rfl⟩
  wp_walk using AutoSeq1.wpAny_loadPart' hl
  refine wpAny_stack_any fun st=>wpAny_pure ?_
  split
  ·rename_i c _ _ _ _ _
   cases (c == Value.type "enumerate") <;> (wp_walk using AutoSeq1.wpAny_loadPart' hl,wpAny_pyIter_tuple hL;exact ⟨_,rfl,h⟩)
  ·wp_walk using AutoSeq1.wpAny_loadPart' hl,wpAny_pyIter_tuple hL
   exact ⟨_,rfl,h⟩
theorem call_enumT {prog:Program} {w:World} {A:Around} {E:Value->Shared->Prop} {s:Shared} {l:Addr} {items:Array Value} {Q:Value->Shared->Prop} (hL:s.heap.IsTuple l items)
 (h:∀ g,IsEnum g (s.heap.objs.size+1) s.heap.objs.size 0 .none->g.IsTupleIter s.heap.objs.size l 0->(∀ b o,s.heap.get? b=some o->g.get? b=some o)->Q (.ref (s.heap.objs.size+1)) { s with heap:=g }):wpAny (model prog w) A (call (.type "enumerate") [.ref l]) Q E s:=by
 obtain ⟨⟨_,dd,_,sl⟩,ho,rfl,n,rfl⟩:=id hL
 refine callType_new F.called_enumerate (by decide) (F.typeCall_enumerate_1 _) (F.newCall_enumerate_1 _) (fun obj=>F.args_object_init_2 obj _) F.entry_enumerate_new (new_enumT l items n dd sl) ⟨ho,?_⟩
 have hz:(s.heap.push { cls:=.type "tuple_iterator",data:=.fields #[.ref l,.int 0 0] }).objs.size=s.heap.objs.size+1:=Heap.size_push ..
 have he:=Heap.get?_push_size (s.heap.push { cls:=.type "tuple_iterator",data:=.fields #[.ref l,.int 0 0] }) (o:={ cls:=.type "enumerate",data:=.fields #[.none,.bool false,.ref s.heap.objs.size,rawInt 0,.none,.none] }) rfl
 rw [hz] at he
 show _/\_
 rw [hz]
 exact ⟨⟨_,he,rfl⟩,h _ he ⟨_,Heap.get?_push_of_some _ (Heap.get?_push_size _ rfl),rfl,rfl⟩ fun b o x=>Heap.get?_push_of_some _ (Heap.get?_push_of_some _ x)⟩
def Ite (K:PySem.W.Frag) (a:Addr):It:=
 ⟨fun i H=>∃ xs x,SqT K H a xs/\xs[i]?=some x,fun i H v H'=>∃ p x,H p=none/\v=.ref p/\(∀ xs,SqT K H a xs->xs[i]?=some x)/\H'=upd H p (.tup [.int i,x]),fun i H=>∃ xs,SqT K H a xs/\xs.length≤i⟩
theorem turn_enumT {P:Program} {w:World} {K:PySem.W.Frag} {elts:List Expr} {k1} {pos:Pos} (a e it:Addr) (hei:e≠it):Turn P w K (.Tuple elts k1 pos) (Ite K a) [e,it] e (fun i h=>(∃ old,IsEnum h e it i old)/\h.IsTupleIter it a i) where
 mem:=by simp
 obj:=fun i h st b hb=>by
  obtain ⟨⟨old,h1⟩,o,h2,_,h3⟩:=st
  rcases List.mem_cons.mp hb with rfl|hb
  ·exact ⟨_,h1,fun v z=>by cases (show Data.fields _=Data.cell v from z)⟩
  ·cases List.mem_singleton.mp hb
   exact ⟨o,h2,fun v z=>by rw [h3] at z;cases z⟩
 keep:=fun i h h' st k=>⟨let ⟨old,h1⟩:=st.1;⟨old,k e (by simp) _ h1⟩,st.2.at fun o z=>k it (by simp) o z⟩
 item:=by
  intro X hP hw hK hc i pins s σ H E I hf st hg
  subst hP hw hK
  obtain ⟨xs,x,hq,hx⟩:=hg
  obtain ⟨its,rv,p,hz⟩:=I.tuple hq
  obtain ⟨u,hu,ru⟩:=rv.get hx
  obtain ⟨⟨old,he⟩,ht⟩:=st
  have hit:s.heap.IsTuple a its.toArray:=p
  have han:a≠it:=by
   rintro rfl
   obtain ⟨o1,h1,h2,_⟩:=id hit
   obtain ⟨o2,h3,h4,_⟩:=id ht
   rw [h1] at h3;cases h3
   rw [h2] at h4;exact absurd (Value.type.inj h4) (by decide)
  have hae:a≠e:=by
   rintro rfl
   obtain ⟨o1,h1,h2,_⟩:=id hit
   rw [he] at h1;cases h1
   exact absurd (Value.type.inj h2) (by decide)
  have D:=drawsT (prog:=X.prog) (w:=X.w) (A:=X.A.in1) (I.ok.hd hc) it a han its.toArray
  have hlt:i<its.toArray.size:=by
   have:=(List.getElem?_eq_some_iff.mp hx).1
   have hl:=rv.length
   rw [List.size_toArray];omega
  refine wpAny_pyNext_enum_itemD D he ⟨ht,hit⟩ hlt hei (by simp [hei,Ne.symm hae]) fun y g tk hy ho hst' htup hsz hk=>?_
  have e1:y=u:=by
   have:its.toArray[i]?=some u:=by simpa using hu
   rw [this] at hy;exact (Option.some.inj hy).symm
  subst e1
  refine ⟨_,rfl,?_⟩
  have helt:e<s.heap.objs.size:=Heap.lt_size he
  have hilt:it<s.heap.objs.size:=let ⟨o,z,_⟩:=ht;Heap.lt_size z
  have I1:Inv X pins σ (upd H s.heap.objs.size (.tup [.int i,x])) { s with heap:=g,toks:=tk+1 }:=by
   refine I.turnLaid (fp:=[e,it]) (fun b o hb z=>hk b o (fun q=>hb (by simp [q])) (fun q=>hb (by simp [q])) z) (fun b hb=>?_) hf (Nat.le_refl _) ?_
   ·rcases List.mem_cons.mp hb with rfl|hb
    ·exact ⟨_,ho⟩
    ·cases List.mem_singleton.mp hb
     exact let ⟨o,z,_⟩:=hst'.1;⟨o,z⟩
   ·exact ⟨by show 2≤sizeLine;decide,[.int i tk,y],.cons ⟨_,rfl⟩ (.cons ru .nil),⟨_,htup,rfl,_,rfl⟩⟩
  have hno:∀ b∈[e,it],(upd H s.heap.objs.size (.tup [.int i,x])) b=none:=fun b hb=>by
   have hbl:b<s.heap.objs.size:=by
    rcases List.mem_cons.mp hb with rfl|hb
    ·exact helt
    ·cases List.mem_singleton.mp hb;exact hilt
   rw [upd_ne (Nat.ne_of_lt hbl)]
   exact (hf b hb).1
  refine wpAny_letOwnedTupleGo_enum ho fun g2 he2 hs2=>?_
  obtain ⟨f0,f1,f2,f3,f4,f5⟩:=hf e (by simp)
  refine ⟨.ref s.heap.objs.size,_,I1.turned (t':=tk+1) (fun b o hb z=>(hs2.2 b hb).trans z) (hno e (by simp)) f1 f3 f4 f5,rfl,⟨s.heap.objs.size,x,I.hok.fresh (Nat.le_refl _),rfl,fun ys hy=>by rw [I.tuple_inj hy hq];exact hx,rfl⟩,⟨⟨_,by simpa using he2⟩,?_⟩,hno⟩
  exact hst'.1.at fun o z=>(hs2.2 it (Ne.symm hei)).trans z
 done:=by
  intro X hP hw hK hc i pins s σ H E I hf st hg
  subst hP hw hK
  obtain ⟨xs,hq,hx⟩:=hg
  obtain ⟨its,rv,p,hz⟩:=I.tuple hq
  obtain ⟨⟨old,he⟩,ht⟩:=st
  obtain ⟨f0,f1,f2,f3,f4,f5⟩:=hf it (by simp)
  have hl:=rv.length
  have hT:s.TypeIs (.ref e) "enumerate":=⟨_,he,rfl⟩
  unfold pyNext
  refine wpAny_bind (wpAny_attempt (wpAny_callSpecial?_slot (name:=Str.ofString "__next__") hT F.slot_enumerate_next (wpAny_call_entry F.slot_enumerate_next hT F.entry_enumerate_next ?_ (F.args_enumerate_next_1 _))))
  show wpAny _ _ (field (.ref e) 2 >>= _) _ _ _
  refine wpAny_bind (wpAny_field he rfl (x:=.ref it) rfl (wpAny_bind (next_tupE (A:=X.A.in1) (I.ok.hd hc) ht (show s.heap.IsTuple a its.toArray from p) (by simp;omega) fun g x ex hx'=>?_)))
  obtain ⟨o,ho,hcl⟩:=hx'
  exact wpAny_bind (wpAny_isInstance (T:="StopIteration") (b:=true) ⟨o,ho,hcl⟩ isSubtype_stop (wpAny_pure ⟨rfl,I.turned (t':=s.toks) (fun b o hb e=>ex b o hb e) f0 f1 f3 f4 f5⟩))
 self:=fun _ _ _ _ _ st h=>let ⟨_,he⟩:=st.1;wpAny_pyIter_enum he h
def iEnum (K:PySem.W.Frag) (ta:TA):TI:=fun σ H R=>ta σ H fun vs H1=>∃ a,vs=[.ref a]/\(∃ xs,SqT K H1 a xs)/\R (Ite K a) H1
theorem pi_enumT {elts:List Expr} {k1} {pt:Pos} {a:Expr} {ta:TA} {p pos:Pos} (hg:Gl X "enumerate") (hm:X.mg "enumerate" = none) (hv:bootBuiltins "enumerate" = some (.type "enumerate")) (ha:PA X [a] ta) (hs:starEach [a] X.env=[(false,eval a X.env)]:=by rfl):PI X (.Tuple elts k1 pt) (.Call (.Name "enumerate" p) [a] [] pos) (iEnum X.K ta):=by
 intro pins s σ H R I h
 refine Call_ (ld_blt I hg hm hv (PyProof.Rows.callWith_type1 (thn (ha pos pins s σ H _ I h) fun us s1 ⟨vs,H1,I1,r1,q1⟩=>?_) hs rfl))
 obtain ⟨l,rfl,⟨xs,hq⟩,q⟩:=q1
 obtain ⟨u,rfl,e⟩:=vals1 r1
 cases (show u=Value.ref l from e)
 obtain ⟨its,rv,hp,hz⟩:=I1.tuple hq
 refine call_enumT (show s1.heap.IsTuple l its.toArray from hp) fun g he hi hk=>wpAny_pyIter_enum he ?_
 refine ⟨s1.heap.objs.size+1,[s1.heap.objs.size+1,s1.heap.objs.size],_,_,H1,rfl,I1.kept (t':=s1.toks) hk,turn_enumT l _ s1.heap.objs.size (Nat.succ_ne_self _),⟨⟨_,he⟩,hi⟩,fun b hb=>?_,q⟩
 rcases List.mem_cons.mp hb with rfl|hb
 ·exact I1.fpOk (Nat.le_succ _) (I1.hok.fresh (Nat.le_succ _))
 ·cases List.mem_singleton.mp hb
  exact I1.fpOk (Nat.le_refl _) (I1.hok.fresh (Nat.le_refl _))
theorem for_enumT {K:PySem.W.Frag} {a:Addr} {xs:List V} {g:TG} {tb:TS} {D:Ends} {σ:St} {H:Hp} (Pv:Nat->St->Hp->Prop) (h0:Pv 0 σ H) (hl:∀ i σ H,i≤xs.length->Pv i σ H->SqT K H a xs)
 (hs:∀ i x σ H p,xs[i]?=some x->Pv i σ H->H p=none->g (.ref p) σ (upd H p (.tup [.int i,x])) fun σ2 H2=>tb { D with nx:=Pv (i+1),ct:=Pv (i+1),bk:=D.nx } σ2 H2)
 (hd:∀ σ H,Pv xs.length σ H->D.nx σ H) :
 ∃ W:Nat->Nat->St->Hp->Prop,(∃ m,W 0 m σ H)/\∀ i m σ H,W i m σ H->((Ite K a).stop i H/\D.nx σ H)∨((Ite K a).go i H/\∃ N:St->Hp->Prop,(∀ σ' H',N σ' H'->∃ m',m'<m/\W (i+1) m' σ' H')/\∀ x H',(Ite K a).yld i H x H'->g x σ H' fun σ2 H2=>tb { D with nx:=N,ct:=N,bk:=D.nx } σ2 H2):=by
 refine ⟨fun i m σ H=>m=xs.length-i/\i≤xs.length/\Pv i σ H,⟨xs.length,by simp,Nat.zero_le _,h0⟩,?_⟩
 rintro i m σ H ⟨rfl,hi,p⟩
 have q:=hl i σ H hi p
 by_cases hlt:i<xs.length
 ·refine .inr ⟨⟨xs,xs[i],q,by simp [hlt]⟩,Pv (i+1),fun σ' H' z=>⟨xs.length-(i+1),by omega,rfl,hlt,z⟩,?_⟩
  rintro x H' ⟨p',y,hn,rfl,hy,rfl⟩
  exact hs i y σ H p' (hy xs q) p hn
 ·have e:i=xs.length:=by omega
  subst e
  exact .inl ⟨⟨xs,q,Nat.le_refl _⟩,hd σ H p⟩
theorem bt_enumerate:bootBuiltins "enumerate" = some (.type "enumerate"):=by decide +kernel
end
def ExcOk (h:Heap) (H:Hp) (g:Heap) (e:Addr) (cls:Value) (dd:Option Addr):Prop:=
 ∃ oe vs,h.get? e=some oe/\oe.cls=cls/\oe.dict=dd/\oe.data=.fields vs/\g.get? e=none/\H e=none/\
   (vs[1]?=some .none∨∃ T oT ts,vs[1]?=some (.ref T)/\T≠e/\h.get? T=some oT/\oT.data=.fields ts/\ts[3]?=some .none/\g.get? T=none/\H T=none)
theorem ExcOk.mono {h:Heap} {H:Hp} {g g':Heap} {e:Addr} {cls:Value} {dd:Option Addr} (x:ExcOk h H g e cls dd) (hl:∀ b,g.get? b=none->g'.get? b=none):ExcOk h H g' e cls dd:=by
 obtain ⟨oe,vs,h1,h2,h3,h4,h5,h6,h7⟩:=x
 refine ⟨oe,vs,h1,h2,h3,h4,hl _ h5,h6,?_⟩
 rcases h7 with h7|⟨T,oT,ts,a,b,c,d,f,gT,i⟩
 ·exact .inl h7
 ·exact .inr ⟨T,oT,ts,a,b,c,d,f,hl _ gT,i⟩
theorem mapF_dict (f:Array Value->Array Value) (o:Obj):(Obj.mapFields f o).dict=o.dict:=by
 obtain ⟨c,d,da,sl⟩:=o
 cases da <;> rfl
section
variable {M:Model} {A:Around} {E:Value->Shared->Prop} {s:Shared}
theorem entryX {base:Heap} {env:Env} {outer:List Env} {L e:Addr} {oe:Obj} {vs:Array Value} {head:Value} {hadNext:Bool} {Q:Unit->Shared->Prop} (hfr:A.frames=some (env::outer)) (hl:s.heap.FunFrames base (env::outer)) (hf:env.frame=some L)
 (he:s.heap.get? e=some oe) (hd:oe.data=.fields vs) (hsz:1<vs.size)
 (h:∀ (h':Heap) (T:Addr) (oe' oT:Obj) (vs' ts:Array Value),s.heap.objs.size≤T->h'.get? e=some oe'->oe'.cls=oe.cls->oe'.dict=oe.dict->oe'.data=.fields vs'->vs'[1]?=some (.ref T)->h'.get? T=some oT->oT.data=.fields ts->ts[3]?=some .none->
  (∀ b o,b≠e->b∉(env::outer).filterMap (·.frame)->s.heap.get? b=some o->h'.get? b=some o)->(∀ b o,b≠e->s.heap.get? b=some o->∃ sl,h'.get? b=some { o with slots:=sl })->Q () { s with heap:=h' }) :
 wpAny M A (do let a ← frameOf env;let pl ← entryPlaceOf L hadNext;let b ← EntryCells.newEntry head a .none (rawInt L) .none pl;setField (.ref e) 1 b) (fun _ s'=>wpAny M A (setFlight (.ref e) none) Q E s') E s:=by
 have hene:e∉(env::outer).filterMap (·.frame):=fun hm=>by
  obtain ⟨_,o,ho,hnf⟩:=hl.mem hm
  rw [he] at ho
  cases ho
  exact hnf vs hd
 refine wpAny_bind (wpAny_frameOf_fun hfr hl hf fun g hs=>wpAny_bind (wpAny_entryPlaceOf fun pl hpl=>?_))
 unfold EntryCells.newEntry newFields
 refine wpAny_bind (wpAny_newObj_type ?_ (hpl.sizeOk5 _ _ _ _ _))
 have ge:g.get? e=some oe:=(hs.2.1 e hene).trans he
 generalize hto:([head,.ref L,.none,rawInt L,.none]++(if pl.isEmpty then List.replicate 6 Value.none else pl)).toArray=tv
 have t3:3<tv.size:=by
  rw [← hto]
  simp only [List.size_toArray,List.length_append,List.length_cons,List.length_nil]
  omega
 have pe:=Heap.get?_push_of_some (h:=g) { cls:=.type "traceback",dict:=none,data:=.fields tv } ge
 refine wpAny_setField pe hd hsz ?_
 have ne:g.objs.size≠e:=Nat.ne_of_gt (Heap.lt_size ge)
 have d3:=Obj.data_mapFields hd (·.setIfInBounds 1 (Value.ref g.objs.size))
 have e3:=Heap.get?_update_self (Obj.mapFields (·.setIfInBounds 1 (Value.ref g.objs.size))) pe (Obj.isFreed_of_fields d3)
 have T3:=(Heap.get?_update_other (g.push { cls:=.type "traceback",dict:=none,data:=.fields tv }) (Obj.mapFields (·.setIfInBounds 1 (Value.ref g.objs.size))) (Ne.symm ne)).trans (Heap.get?_push_size g rfl)
 unfold setFlight
 refine wpAny_bind (wpAny_field e3 d3 (x:=.ref g.objs.size) (by simp [hsz]) ?_)
 rw [if_pos (show (Value.ref g.objs.size != Value.none)=true by simp)]
 refine wpAny_setField T3 rfl t3 ?_
 have hgz:s.heap.objs.size≤g.objs.size:=Nat.le_of_eq hs.1.symm
 have keep:∀ b o,b≠e->g.get? b=some o->(((g.push { cls:=.type "traceback",dict:=none,data:=.fields tv }).update e (Obj.mapFields (·.setIfInBounds 1 (Value.ref g.objs.size)))).update g.objs.size (Obj.mapFields (·.setIfInBounds 3 ((none:Option Addr).elim Value.none fun f=>rawInt f)))).get? b=some o:=fun b o hb hg=>by
  rw [Heap.get?_update_other _ _ (Nat.ne_of_gt (Heap.lt_size hg)),Heap.get?_update_other _ _ (Ne.symm hb)]
  exact Heap.get?_push_of_some _ hg
 refine h _ g.objs.size _ _ _ _ hgz (by rw [Heap.get?_update_other _ _ ne];exact e3) (Obj.cls_mapFields _ _) (mapF_dict _ _) d3 (by simp [hsz]) (Heap.get?_update_self _ T3 (Obj.isFreed_of_fields (Obj.data_mapFields rfl _))) (Obj.data_mapFields rfl _) (by simp [t3]) (fun b o hb hbf hbo=>keep b o hb ((hs.2.1 b hbf).trans hbo)) fun b o hb hbo=>?_
 obtain ⟨sl,q⟩:=hs.2.2 b o hbo
 exact ⟨sl,keep b _ hb q⟩
end
section
variable {X:Cx} {pins:List (Addr×Obj)} {σ:St} {H:Hp} {s:Shared} {e:Addr} {cls:Value} {dd:Option Addr}
theorem leaveX {A:Around} {Q:Unit->Shared->Prop} {E:Value->Shared->Prop} (I:Inv X pins σ H s) (hst:X.stack=X.env::X.outer) (hfm:X.env.frame=some X.env.locals) (hfr:A.frames=some X.stack) (hex:X.ex=[]) (x:ExcOk s.heap H X.s₀.heap e cls dd)
 (h:∀ h',ExcOk h' H X.s₀.heap e cls dd->Un (frs X.outer) [] X.H₀ H X.s₀.heap h'->HOk X.prog X.w H h'->Q () { s with heap:=h' }):wpAny (model X.prog X.w) A (leaving X.env (.ref e)) Q E s:=by
 have hl:=I.stack
 rw [hst] at hfr hl
 obtain ⟨oe,vs,h1,h2,h3,h4,h5,h6,h7⟩:=x
 have free:∀ b∈(X.env::X.outer).filterMap (·.frame),H b=none:=fun b hb=>I.stkFree b (by rw [hst];exact hb)
 have fin:∀ (h':Heap) (T:Addr) (oe' oT:Obj) (vs' ts:Array Value),X.s₀.heap.get? T=none->T≠e->H T=none->h'.get? e=some oe'->oe'.cls=oe.cls->oe'.dict=oe.dict->oe'.data=.fields vs'->vs'[1]?=some (.ref T)->h'.get? T=some oT->oT.data=.fields ts->ts[3]?=some .none->
  (∀ b o,b≠e->(H b≠none∨∃ o₀,X.s₀.heap.get? b=some o₀)->b∉(X.env::X.outer).filterMap (·.frame)->s.heap.get? b=some o->h'.get? b=some o)->(∀ b o,(∃ o₀,X.s₀.heap.get? b=some o₀)->s.heap.get? b=some o->∃ sl,h'.get? b=some { o with slots:=sl })->Q () { s with heap:=h' }:=by
  intro h' T oe' oT vs' ts hT hTe hTn g1 g2 g3 g4 g5 g6 g7 g8 kp ks
  refine h h' ⟨oe',vs',g1,g2.trans h2,g3.trans h3,g4,h5,h6,.inr ⟨T,oT,ts,g5,hTe,g6,g7,g8,hT,hTn⟩⟩ ?_ ?_
  ·have B:=I.base
   rw [hex] at B
   have nl:∀ b o,X.s₀.heap.get? b=some o->b<X.s₀.heap.objs.size:=fun b o z=>Heap.lt_size z
   have ninF:∀ b,b<X.s₀.heap.objs.size->b∉frs X.outer->b∉(X.env::X.outer).filterMap (·.frame):=fun b hb hn hm=>by
    rw [List.filterMap_cons,hfm] at hm
    rcases List.mem_cons.mp hm with rfl|hm
    ·exact absurd (Nat.lt_of_lt_of_le hb I.ok.above) (Nat.lt_irrefl _)
    ·exact hn hm
   refine ⟨fun b o z n hb hx=>kp b o (fun q=>by subst q;rw [h5] at z;cases z) (.inr ⟨o,z⟩) (ninF b (nl b o z) hb) (B.keep b o z n hb hx),fun b o z n hb hx=>?_,B.free,fun b o z hx=>?_,B.tups,B.frzs,B.tbls⟩
   ·obtain ⟨sl,q⟩:=B.slot b o z n hb hx
    obtain ⟨sl',q'⟩:=ks b _ ⟨o,z⟩ q
    exact ⟨sl',q'⟩
   ·obtain ⟨o',q⟩:=B.there b o z hx
    obtain ⟨sl',q'⟩:=ks b _ ⟨o,z⟩ q
    exact ⟨_,q'⟩
  ·intro b u hb
   refine (I.hok b u hb).stay (fun c v hc q=>kp c v ?_ (.inl ?_) ?_ q) (fun _ q=>q) fun _ _ q=>q
   ·rintro rfl
    rcases hc with rfl|z
    ·rw [h6] at hb;cases hb
    ·rw [h6] at z;cases z
   ·rcases hc with rfl|z
    ·rw [hb];simp
    ·rw [z];simp
   ·intro hm
    have:=free c hm
    rcases hc with rfl|z
    ·rw [this] at hb;cases hb
    ·rw [this] at z;cases z
 unfold leaving noteFrame
 simp only [hfm]
 rcases h7 with h7|⟨T,oT,ts,t1,t2,t3,t4,t5,t6,t7⟩
 ·refine wpAny_bind (wpAny_bind (wpAny_field h1 h4 h7 ?_))
  rw [if_neg (by decide)]
  refine entryX hfr hl hfm h1 h4 (Array.getElem?_eq_some_iff.mp h7).1 fun h' T oe' oT vs' ts hT g1 g2 g3 g4 g5 g6 g7 g8 kp ks=>?_
  have hTe:T≠e:=fun q=>by subst q;exact absurd (Nat.lt_of_lt_of_le (Heap.lt_size h1) hT) (Nat.lt_irrefl _)
  exact fin h' T oe' oT vs' ts (Heap.get?_none_of_le (Nat.le_trans I.sz hT)) hTe (I.hok.fresh hT) g1 g2 g3 g4 g5 g6 g7 g8 (fun b o hb _ hm z=>kp b o hb hm z) fun b o hb z=>ks b o (fun q=>by subst q;obtain ⟨_,hb⟩:=hb;rw [h5] at hb;cases hb) z
 ·refine wpAny_bind (wpAny_bind (wpAny_field h1 h4 t1 ?_))
  rw [if_pos (show (Value.ref T != Value.none)=true by simp)]
  refine wpAny_bind (wpAny_field t3 t4 t5 ?_)
  rw [if_neg (show ¬ ((Value.none == rawInt X.env.locals)=true) by simp [rawInt])]
  refine wpAny_bind (wpAny_setField t3 t4 (Array.getElem?_eq_some_iff.mp t5).1 ?_)
  have other:∀ b,b≠T->(s.heap.update T (Obj.mapFields (·.setIfInBounds 3 Value.none))).get? b=s.heap.get? b:=fun b hb=>Heap.get?_update_other _ _ (Ne.symm hb)
  have noR:∀ b o,s.heap.get? b=some o->(∀ vs,o.data≠.fields vs)->b≠T:=fun b o hb hnf q=>by
   subst q
   rw [t3] at hb
   cases hb
   exact hnf ts t4
  refine entryX (s:={ s with heap:=s.heap.update T (Obj.mapFields (·.setIfInBounds 3 Value.none)) }) hfr (hl.of_keeps fun b o hb hnf=>⟨o,(other b (noR b o hb hnf)).trans hb,rfl⟩) hfm ((other e (Ne.symm t2)).trans h1) h4 (Array.getElem?_eq_some_iff.mp t1).1 fun h' T' oe' oT' vs' ts' hT g1 g2 g3 g4 g5 g6 g7 g8 kp ks=>?_
  have hT':s.heap.objs.size≤T':=by
   have z:(s.heap.update T (Obj.mapFields (·.setIfInBounds 3 Value.none))).objs.size=s.heap.objs.size:=Heap.size_update _ _ _
   exact Nat.le_trans (Nat.le_of_eq z.symm) hT
  have hTe:T'≠e:=fun q=>by subst q;exact absurd (Nat.lt_of_lt_of_le (Heap.lt_size h1) hT') (Nat.lt_irrefl _)
  refine fin h' T' oe' oT' vs' ts' (Heap.get?_none_of_le (Nat.le_trans I.sz hT')) hTe (I.hok.fresh hT') g1 g2 g3 g4 g5 g6 g7 g8 (fun b o hb hq hm z=>kp b o hb hm ((other b ?_).trans z)) fun b o hb z=>ks b o (fun q=>by subst q;obtain ⟨_,hb⟩:=hb;rw [h5] at hb;cases hb) ((other b ?_).trans z)
  ·rintro rfl
   rcases hq with hq|hq
   ·exact hq t7
   ·obtain ⟨_,hq⟩:=hq
    rw [t6] at hq;cases hq
  ·rintro rfl
   obtain ⟨_,hb⟩:=hb
   rw [t6] at hb;cases hb
end
def CX1 (P:Program) (w:World):CXT:=fun outer H s E e s'=>∃ (ea:Addr) (cls:Value) (dd:Option Addr) (H':Hp),e=.ref ea/\s'.os=s.os/\AllBare s'.gens/\Un (frs outer) [] H H' s.heap s'.heap/\HOk P w H' s'.heap/\ExcOk s'.heap H' s.heap ea cls dd/\E cls dd H'
section
variable {P:Program} {w:World} {K:PySem.W.Frag} {mg:Str->Option Value} {base:Heap} {N:List Str} {qual:Str} {scope:Scope} {f:Addr} {cd:Value} {A:Around} {outer:List Env} {s:Shared} {H:Hp} {E:XK}
theorem xe1 {pins:List (Addr×Obj)} {σ:St} {H':Hp} {s':Shared} {e:Addr} {cls:Value} {dd:Option Addr} (I:Inv (cxOf (CX1 P w) P w K mg base N qual scope f cd A outer s H E) pins σ H' s') (x:ExcOk s'.heap H' s.heap e cls dd) (h:E cls dd H') :
 (cxOf (CX1 P w) P w K mg base N qual scope f cd A outer s H E).xe (.ref e) s':=
 leaveX I rfl rfl I.ok.frames rfl x fun h' x' u k=>⟨e,cls,dd,H',rfl,I.os,I.bare,u,k,x',h⟩
theorem pass1 {E':XK} (hE:∀ cls dd H',E' cls dd H'->E cls dd H'):Passes (CX1 P w) (cxOf (CX1 P w) P w K mg base N qual scope f cd A outer s H E) E':=by
 intro pins σ H1 s1 e s' I h
 obtain ⟨ea,cls,dd,H',rfl,os,bare,un,hok,x,q⟩:=h
 obtain ⟨hh,g,d,t,os'⟩:=s'
 obtain rfl:os'=s1.os:=os
 have I':Inv (cxOf (CX1 P w) P w K mg base N qual scope f cd A outer s H E) pins σ H' ⟨hh,g,d,t,s1.os⟩:=I.call (h':=hh) (g':=g) (d':=d) (t':=t) (ch:=[]) un hok bare (fun b z=>absurd z (by simp))
 refine xe1 I' (x.mono fun b hb=>?_) (hE _ _ _ q)
 cases z:s.heap.get? b with
 |none=>rfl
 | some o=>
   obtain ⟨o',q'⟩:=I.base.there b o z (by intro hz;cases hz)
   rw [hb] at q';cases q'
end
end L2
namespace L2
open PySem PySem.Spec PyProof.Rows PySem.SeqAt PySem.W
def makesX (K:Frag) (C:Addr) (B newId:String):Bool:=match K.lookup C with
 |some ⟨_,_,.cls cd,sl⟩=>!cd.abstract && !cd.hasDel && (sl.toList[4]?).join == some (.builtin newId) && !cd.mro.isEmpty && cd.mro.contains (.ref C) && cd.mro.contains (.type B) && cd.mro.contains (.type "BaseException") && !cd.mro.contains (.type "AttributeError") && !cd.mro.contains (.type "NameError") &&
  specialIn K (.ref C) "__call__" == some (some (.builtin "type.__call__")) && instIn K (.ref C) (.type "type") == some true
 |_=>false
structure MakesX (M:Model) (h:Heap) (C:Addr) (B newId:String):Prop where
 obj:∃ oc od cd sl,h.get? C=some ⟨oc,od,.cls cd,sl⟩/\cd.abstract=false/\cd.hasDel=false/\cd.mro.isEmpty=false
 made:Looks M h (Bind.madeBy (.ref C)) (some newId)
 base:Looks M h (Bind.staticBase (.ref C)) (.ref C)
 self:Looks M h (isSubtype (.ref C) (.ref C)) true
 isB:Looks M h (isSubtype (.ref C) (.type B)) true
 isE:Looks M h (isSubtype (.ref C) (.type "BaseException")) true
 noA:Looks M h (isSubtype (.ref C) (.type "AttributeError")) false
 noN:Looks M h (isSubtype (.ref C) (.type "NameError")) false
 call:Looks M h (specialOf (.ref C) "__call__") (some (.builtin "type.__call__"))
 typ:Looks M h (isInstance (.ref C) (.type "type")) true
theorem makesX_of {K:Frag} {M:Model} {h:Heap} (X:K.In h) {C:Addr} {B newId:String} (e:makesX K C B newId=true):MakesX M h C B newId:=by
 unfold makesX at e
 split at e
 ·rename_i oc od cd sl ho
  simp only [Bool.and_eq_true,Bool.not_eq_true',beq_iff_eq] at e
  obtain ⟨⟨⟨⟨⟨⟨⟨⟨⟨⟨e1,e2⟩,e3⟩,e4⟩,e5⟩,e6⟩,e7⟩,e8⟩,e9⟩,e10⟩,e11⟩:=e
  have hc:clsIn K C=some cd:=by unfold clsIn;rw [ho]
  have hm:Looks M h (mroOf (.ref C)) cd.mro:=(looks_clsIn X hc).andThen .now
  obtain ⟨c,l,hl⟩:∃ c l,cd.mro=c::l:=by
   cases q:cd.mro with
   |nil=>rw [q] at e4;cases e4
   |cons c l=>exact ⟨c,l,rfl⟩
  have made:Looks M h (Bind.madeBy (.ref C)) (some newId):=by
   intro A Q E s k q
   unfold Bind.madeBy
   refine wpAny_bind (hm A _ E s k ?_)
   rw [hl,List.forIn_cons]
   refine wpAny_bind (wpAny_bind (wpAny_bind (wpAny_bind (wpAny_loadPart (k _ _ (X _ _ ho)) (wpAny_pure ?_)))))
   dsimp only
   rw [← Array.getElem?_toList,e3]
   exact wpAny_pure (wpAny_pure (wpAny_pure q))
  have sub:∀ (v:Value) (b:Bool),cd.mro.contains v=b->Looks M h (isSubtype (.ref C) v) b:=fun v b z=>looks_mroIn X (by unfold mroIn;rw [hc,Option.bind_some,if_neg (by rw [e4];decide),z])
  refine ⟨⟨oc,od,cd,sl,X _ _ ho,e1,e2,e4⟩,made,?_,sub _ _ e5,sub _ _ e6,sub _ _ e7,sub _ _ e8,sub _ _ e9,looks_specialIn X e10,looks_instIn X e11⟩
  intro A Q E s k q
  unfold Bind.staticBase
  refine wpAny_bind (hm A _ E s k ?_)
  rw [hl,List.forIn_cons]
  exact wpAny_bind (wpAny_bind (wpAny_bind (made A _ E s k (wpAny_pure (wpAny_pure (wpAny_pure q))))))
 ·cases e
abbrev excNew (C t:Addr):Obj:={ cls:=.ref C,data:=.fields #[.ref t,.none,.none,.none,.bool false,.none] }
section
variable {prog:Program} {w:World} {A:Around} {C:Addr} {R:Result->Shared->Prop} {h:Heap} {g:Array GenState} {d:Drawn} {t:Nat} {os:OsState} {B newId initId:String} {bm:List Value}
theorem newX (F:ExcBaseFacts B newId initId bm) {rest:List Value} (Y:MakesX (model prog w) h C B newId) (hrest:rest.length≤sizeLine)
 (hq:R (.ok (.ret (.ref (h.objs.size+1)))) ⟨(h.push { cls:=.type "tuple",data:=.seq rest.toArray }).push (excNew C h.objs.size),g,d,t,os⟩) :
 codeAny (model prog w) A (.call (.builtin newId) ⟨.ref C::rest,[]⟩) R ⟨h,g,d,t,os⟩:=by
 obtain ⟨⟨oc,od,cd,sl,hC,e1,e2,e4⟩,made,base,self,isB,isE,noA,noN,call,typ⟩:=Y
 have hstar:=F.noStar
 have hends:=F.ends
 refine codeAny_call_builtin_code (Code.quiet_builtin _ F.quiet) ?_
 simp only [checkBuiltinCall,F.newKind,F.newSplit,F.newRow]
 have here:Looks (model prog w) h (Bind.madeHere newId (.ref C)) ():=base.andThen (made.andThen (Looks.of_pure (by simp only [Option.map_some,bne_self_eq_false,Bool.false_eq_true,if_false])))
 repeat (first|simp only [bne_self_eq_false,Bool.false_eq_true,if_false]|lk)
 repeat (first|wp_step)
 refine PySem.codeAny_builtinAt F.entry ?_
 unfold Builtin.«BaseException.__new__»
 refine PySem.wpAt_bind ?_
 show PySem.wpAt _ _ _ (stack >>= _) _ _ _
 refine PySem.wpAt_bind (PySem.wpAt_stack fun p below=>PySem.wpAt_of_wpAny ?_)
 wp_walk
 refine PySem.wpAt_of_wpAny ?_
 rw [F.owner]
 have here2:Looks (model prog w) h (Bind.madeHere "BaseException.__new__" (.ref C)) ():=base.andThen (made.andThen (Looks.of_pure (by simp only [Option.map_some,F.canon,bne_self_eq_false,Bool.false_eq_true,if_false])))
 repeat (first|with_reducible refine here2.at ?_|with_reducible refine isB.at ?_|with_reducible refine noA.at ?_|with_reducible refine noN.at ?_|with_reducible refine wpAny_loadPart_at hC ?_|wp_step)
 show R _ _
 rw [Heap.size_push]
 exact hq
theorem makeX_core (F:ExcBaseFacts B newId initId bm) {rest:List Value} {init:Value} (Y:MakesX (model prog w) h C B newId) (hi:Looks (model prog w) h (typeLookup (.ref C) "__init__") (some init)) (hb:∀ self,Looks (model prog w) h (bindSpecial init self) (init,[self])) (hrest:rest.length≤sizeLine)
 (hq:codeAny (model prog w) (A.under (.builtin "type.__call__" ⟨.ref C::rest,[]⟩)) (.call init ⟨.ref (h.objs.size+1)::rest,[]⟩) (InitBack (h.objs.size+1) R) ⟨(h.push { cls:=.type "tuple",data:=.seq rest.toArray }).push (excNew C h.objs.size),g,d,t,os⟩) :
 codeAny (model prog w) A (.call (.ref C) ⟨rest,[]⟩) R ⟨h,g,d,t,os⟩:=by
 have Y':=Y
 obtain ⟨⟨oc,od,cd,sl,hC,e1,e2,e4⟩,made,base,self,isB,isE,noA,noN,call,typ⟩:=Y
 refine codeAny_of_tree ?_
 show wpAny _ _ (callAny (.ref C) _) _ _ _
 refine nd_load hC ?_
 show wpAny _ _ (callAny.viaDunder (.ref C) _) _ _ _
 unfold callAny.viaDunder
 refine wpAny_bind (call.at ?_)
 dsimp only
 rw [tc_bind]
 refine wpAny_bind (wpAny_pure (wpAny_bind (wpAny_pure (wpAny_pure (a:=Fin.again (.call (.builtin "type.__call__") ⟨.ref C::rest,[]⟩)) (And.intro rfl ?_)))))
 refine codeAny_call_builtin_at (Code.quiet_builtin _ (by decide +kernel)) entry_typeCall (check_slot tc_kind tc_split typ (tc_args _ _ _) ?_)
 unfold Builtin.«type.__call__»
 have hm:Looks (model prog w) h (mroOf (.ref C)) cd.mro:=((Looks.ld (part:=none) hC).andThen .now).andThen .now
 repeat (first|simp only [e4,Bool.false_eq_true,if_false]|with_reducible refine wpAny_call ?_|lk)
 refine newX F Y' hrest ?_
 have k:∀ b o,h.get? b=some o->((h.push { cls:=.type "tuple",data:=.seq rest.toArray }).push (excNew C h.objs.size)).get? b=some o:=fun b o e=>Heap.get?_push_of_some _ (Heap.get?_push_of_some _ e)
 have hx:((h.push { cls:=.type "tuple",data:=.seq rest.toArray }).push (excNew C h.objs.size)).get? (h.objs.size+1)=some (excNew C h.objs.size):=by
  have:=Heap.get?_push_size (h.push { cls:=.type "tuple",data:=.seq rest.toArray }) (o:=excNew C h.objs.size) rfl
  rwa [Heap.size_push] at this
 have t1:Looks (model prog w) ((h.push { cls:=.type "tuple",data:=.seq rest.toArray }).push (excNew C h.objs.size)) (typeOf (.ref (h.objs.size+1))) (.ref C):=(Looks.ld hx).andThen .now
 have s1:=self.keeps k
 have i1:=hi.keeps k
 have b1:=(hb (.ref (h.objs.size+1))).keeps k
 unfold isInstance callSpecial? specialOf
 repeat (first|with_reducible refine wpAny_call ?_|lk)
 refine codeAny_mono hq fun r s' z=>?_
 rcases r with e|(v|_|_|_) <;> first|exact z|exact z.elim|skip
 obtain ⟨rfl,z⟩:=z
 exact wpAny_pure (wpAny_pure z)
end
end L2
namespace L2
open PySem PySem.Spec PyProof.Rows PySem.SeqAt PySem.W Builtin.ObjectAttr
def excO (e C:Addr) (dd:Option Addr):HO:=.ext fun h=>∃ a0:Value,h.get? e=some { cls:=.ref C,dict:=dd,data:=.fields #[a0,.none,.none,.none,.bool false,.none] }
def exD (da:Addr) (fs:List (Str×V)):HO:=.ext fun h=>∃ mA,h.Ns1 da mA/\(∀ f,RelO (fs.lookup f) (mA f))/\PySem.Within mA (fs.map (·.1))
theorem excO_ok {P:Program} {w:World} {H:Hp} {h:Heap} {e C:Addr} {dd:Option Addr} {a0:Value} (x:h.get? e=some { cls:=.ref C,dict:=dd,data:=.fields #[a0,.none,.none,.none,.bool false,.none] }):ObjOk P w H h e (excO e C dd):=
 ⟨⟨a0,x⟩,⟨_,x⟩,fun h1 h2 ⟨a,z⟩ k=>⟨a,k _ z⟩⟩
theorem exD_ok {P:Program} {w:World} {H:Hp} {h:Heap} {da:Addr} {fs:List (Str×V)} {mA:Str->Option Value} (x:h.Ns1 da mA) (r:∀ f,RelO (fs.lookup f) (mA f)) (wi:PySem.Within mA (fs.map (·.1))):ObjOk P w H h da (exD da fs):=by
 obtain ⟨o,es,ep,ho,rest⟩:=id x
 refine ⟨⟨mA,x,r,wi⟩,⟨o,ho⟩,fun h1 h2 z k=>?_⟩
 obtain ⟨mB,⟨o',es',ep',ho',rest'⟩,r',wi'⟩:=z
 exact ⟨mB,⟨o',es',ep',k _ ho',rest'⟩,r',wi'⟩
theorem refuse_refs (self:Value) {bm:List Value} (hb:refuseLoop self "__setattr__" bm=pure ()) (hne:bm≠[]):∀ (rs:List Addr),refuseLoop self "__setattr__" (rs.map Value.ref++bm)=pure ()
 |[]=>hb
 | c::r=>by
   rw [List.map_cons,List.cons_append,refuseLoop_ref]
   exact refuse_refs self hb hne r
structure XCls (K:Frag) (C:Addr) (B newId:String):Prop where
 mks:makesX K C B newId=true
 sa:findIn K (.ref C) "__setattr__" = some (some (.builtin "object.__setattr__"))
 cd:∃ (cd:ClassData) (rs:List Addr) (bm:List Value),clsIn K C=some cd/\cd.hasDict=true/\cd.mro=rs.map Value.ref++bm/\bm≠[]/\(∀ self,refuseLoop self "__setattr__" bm=pure ())/\bm.contains (.type "object")=true
 kp:keepIn K (.ref C)=true
 ty:typeIn K (.ref C)=some (.type "type")
section
variable {prog:Program} {w:World} {A:Around} {R:Result->Shared->Prop} {s:Shared} {K:Frag} {x C:Addr} {name:Str}
theorem osaX {ox:Obj} {od:Option Obj} {tk:Tok} {v:Value} {B newId:String} (X:K.In s.heap) (I:InstAt s.heap x ox C od) (XC:XCls K C B newId) (ht:takerIn K C name=some none)
 (h:∀ b,wpAny (model prog w) A.in1 (Builtin.ObjectAttr.storeInOwnDict (.ref x) (.ref C) (.str name tk) name v b) (fun fin s'=>match fin with|.done f=>R (.ok f) s'|.again c'=>c'.quiet=true/\codeAny (model prog w) A c' R s') (fun e s'=>R (.error e) s') s) :
 codeAny (model prog w) A (.call (.builtin "object.__setattr__") ⟨[.ref x,.str name tk,v],[]⟩) R s:=by
 have SF:=PySem.F.store_object
 obtain ⟨cd,rs,bm,hc,hdct,hmro,hne,hrf,hob⟩:=XC.cd
 have ne:cd.mro.isEmpty=false:=by
  rw [hmro]
  cases rs with
  |nil=>cases bm with|nil=>exact absurd rfl hne|cons _ _=>rfl
  |cons _ _=>rfl
 have hcon:cd.mro.contains (.type "object")=true:=by
  rw [hmro,List.contains_eq_mem,decide_eq_true_eq]
  rw [List.contains_eq_mem,decide_eq_true_eq] at hob
  exact List.mem_append_right _ hob
 have sub:Looks (model prog w) s.heap (isInstance (.ref x) (.type "object")) true:=I.type.andThen (looks_mroIn X (by unfold mroIn;rw [hc,Option.bind_some,if_neg (by rw [ne];decide),hcon]))
 refine codeAny_call_builtin SF.slot.plain SF.entry (@check_slot (model prog w) _ _ s "object.__setattr__" "object" "__setattr__" (.ref x) [.str name tk,v] [] _ SF.kind SF.split sub (SF.args (.ref x) (.str name tk) v) ?_)
 obtain ⟨attr,ha,hr⟩:=Option.bind_eq_some_iff.mp ht
 have hm:Looks (model prog w) s.heap (mroOf (.ref C)) cd.mro:=(looks_clsIn X hc).andThen .now
 have L3:Looks (model prog w) s.heap (storeTaker? attr) none:=by
  cases attr with
  |none=>exact .now
  | some a=>
    obtain ⟨b,hb,q⟩:=Option.map_eq_some_iff.mp hr
    refine (looks_takesIn X hb).andThen ?_
    cases b with
    |false=>exact .now
    |true=>cases q
 rw [osa_eq,refuse_eq]
 refine wpAny_bind (wpAny_bind (I.type.here (wpAny_bind (hm.here ?_))))
 rw [hmro,refuse_refs _ (hrf _) hne]
 refine wpAny_pure (wpAny_bind (I.type.here (wpAny_bind ((looks_findIn X ha).here (wpAny_bind (L3.here ?_))))))
 exact h _
end
section
variable {prog:Program} {w:World} {A:Around} {E:Value->Shared->Prop} {s:Shared} {K:Frag} {x C:Addr} {name:Str} {v:Value} {tk:Tok} {Q:Fin->Shared->Prop} {vs:Array Value} {sl:Array (Option Value)}
theorem storeX_new {cd:ClassData} {b:Bool} (X:K.In s.heap) (hx:s.heap.get? x=some ⟨.ref C,none,.fields vs,sl⟩) (hc:clsIn K C=some cd) (hd:cd.hasDict=true)
 (h:∀ h',h'.Ns1 s.heap.objs.size (fun y=>if y=name then some v else none)->h'.get? x=some ⟨.ref C,some s.heap.objs.size,.fields vs,sl⟩->(∀ b o,b≠x->s.heap.get? b=some o->h'.get? b=some o)->Q (.done (.ret .none)) { s with heap:=h',toks:=s.toks+1 }) :
 wpAny (model prog w) A (storeInOwnDict (.ref x) (.ref C) (.str name tk) name v b) Q E s:=by
 unfold storeInOwnDict
 refine wpAny_bind (wpAny_pure (wpAny_bind (wpAny_bind (wpAny_loadPart hx (wpAny_bind (Looks.here (looks_clsIn X hc) ?_))))))
 rw [hd]
 have hx1:(s.heap.push { cls:=.type "dict",data:=.dict #[] }).get? x=some ⟨.ref C,none,.fields vs,sl⟩:=Heap.get?_push_of_some _ hx
 have hxs:x≠s.heap.objs.size:=Nat.ne_of_lt (Heap.lt_size hx)
 show wpAny _ _ (do
  let d ← alloc { cls:=Value.type "dict",data:=Data.dict #[] }
  update x fun o=>{ cls:=o.cls,dict:=some d,data:=o.data,slots:=o.slots }
  dictMade (Value.ref C) x d) _ _ _
 refine wpAny_bind (wpAny_alloc' (wpAny_bind (wpAny_update' hx1 ?_)))
 refine wpAny_pure ?_
 have hgd:((s.heap.push { cls:=.type "dict",data:=.dict #[] }).update x fun o=>{ cls:=o.cls,dict:=some s.heap.objs.size,data:=o.data,slots:=o.slots }).get? s.heap.objs.size=some { cls:=.type "dict",data:=.dict #[] }:=(Heap.get?_update_ne _ _ _ _ hxs.symm).trans (Heap.get?_push_at rfl rfl)
 have hnd:((s.heap.push { cls:=.type "dict",data:=.dict #[] }).update x fun o=>{ cls:=o.cls,dict:=some s.heap.objs.size,data:=o.data,slots:=o.slots }).Ns s.heap.objs.size (fun _=>none):=⟨_,#[],_,hgd,rfl,fun e he=>absurd he (by simp),fun _=>rfl⟩
 show wpAny _ _ (storeInDict s.heap.objs.size (.str name tk) name v) _ _ _
 unfold storeInDict newKeyGuard
 refine wpAny_bind (wpAny_pure (wpAny_bind (wpAny_nsSet1 (s:={ s with heap:=_ }) (Heap.Ns1.of_empty hnd) fun h' hn' hs=>?_)))
 obtain ⟨oD,esD,epD,hoD,hdD,hcD⟩:=hn'.count (PySem.Within.cons name v PySem.Within.nil)
 refine wpAny_bind (wpAny_lookBehind hoD (by rw [hdD];exact pastItsLine_dict (Nat.le_trans hcD (by rw [List.length_cons,List.length_nil,sizeLine_eq];omega))) ?_)
 refine wpAny_pure (h h' hn' ?_ fun b o hb hbo=>?_)
 ·exact (hs.2 x hxs).trans (Heap.get?_update_self _ hx1 rfl)
 ·exact (hs.2 b (Nat.ne_of_lt (Heap.lt_size hbo))).trans ((Heap.get?_update_ne _ _ _ _ hb).trans (Heap.get?_push_of_some _ hbo))
theorem storeX_old {cd:ClassData} {b:Bool} {da:Addr} {mA:Str->Option Value} {ns:List Str} (X:K.In s.heap) (hx:s.heap.get? x=some ⟨.ref C,some da,.fields vs,sl⟩) (hc:clsIn K C=some cd) (hd:cd.hasDict=true) (hn:s.heap.Ns1 da mA) (hw:PySem.Within mA ns) (hz:ns.length<1000)
 (h:∀ h',h'.Ns1 da (fun y=>if y=name then some v else mA y)->Heap.SameBut da s.heap h'->Q (.done (.ret .none)) { s with heap:=h',toks:=s.toks+1 }) :
 wpAny (model prog w) A (storeInOwnDict (.ref x) (.ref C) (.str name tk) name v b) Q E s:=by
 unfold storeInOwnDict
 refine wpAny_bind (wpAny_pure (wpAny_bind (wpAny_bind (wpAny_loadPart hx (wpAny_bind (Looks.here (looks_clsIn X hc) ?_))))))
 rw [hd]
 refine wpAny_pure (a:=some da) ?_
 show wpAny _ _ (storeInDict da (.str name tk) name v) _ _ _
 unfold storeInDict newKeyGuard
 refine wpAny_bind (wpAny_pure (wpAny_bind (wpAny_nsSet1 hn fun h' hn' hs=>?_)))
 obtain ⟨oD,esD,epD,hoD,hdD,hcD⟩:=hn'.count (PySem.Within.cons name v hw)
 refine wpAny_bind (wpAny_lookBehind hoD (by rw [hdD];exact pastItsLine_dict (Nat.le_trans hcD (by rw [List.length_cons,sizeLine_eq];omega))) ?_)
 exact wpAny_pure (h h' hn' hs)
end
section
variable {X:Cx} {pins:List (Addr×Obj)} {σ:St} {H:Hp} {s:Shared} {e C:Addr} {f:Str} {B newId:String} {A:Around} {E:Value->Shared->Prop} {y:V} {u:Value} {Q:Unit->Shared->Prop}
theorem exc_at {dd:Option Addr} (I:Inv X pins σ H s) (he:H e=some (excO e C dd)):∃ a0,s.heap.get? e=some { cls:=.ref C,dict:=dd,data:=.fields #[a0,.none,.none,.none,.bool false,.none] }:=(show ObjOk X.prog X.w H s.heap e (excO e C dd) from I.hok e _ he).1
theorem setX_new (I:Inv X pins σ H s) (he:H e=some (excO e C none)) (XC:XCls X.K C B newId) (ht:takerIn X.K C f=some none) (ry:RelV y u)
 (h:∀ da s',H da=none->Inv X pins σ (upd (upd H e (excO e C (some da))) da (exD da [(f,y)])) s'->Q () s'):wpAny (model X.prog X.w) A (setAttr (.ref e) f u) Q E s:=by
 obtain ⟨a0,hx⟩:=exc_at I he
 have J:InstAt s.heap e _ C none:=⟨hx,rfl,rfl,True.intro⟩
 obtain ⟨cd,rs,bm,hc,hdct,_⟩:=XC.cd
 refine set_plain I.kIn J XC.sa (osaX (s:={ s with toks:=s.toks+1 }) I.kIn J XC ht fun b=>storeX_new (s:={ s with toks:=s.toks+1 }) I.kIn hx hc hdct fun h' hn hx' hk=>?_)
 have fr:H s.heap.objs.size=none:=I.hok.fresh (Nat.le_refl _)
 have nes:e≠s.heap.objs.size:=Nat.ne_of_lt (Heap.lt_size hx)
 refine h s.heap.objs.size _ fr ?_
 have hx1:(s.heap.push emptyDict).get? e=some _:=Heap.get?_push_of_some _ hx
 have g1:(s.heap.push emptyDict).get? s.heap.objs.size=some emptyDict:=Heap.get?_push_size s.heap rfl
 have e3:(s.heap.push emptyDict).Ns s.heap.objs.size (fun _=>none):=⟨emptyDict,#[],_,g1,rfl,(fun e he=>absurd he (by simp)),fun _=>rfl⟩
 have I1:=I.laid (a:=s.heap.objs.size) (o:=exD s.heap.objs.size []) (h':=s.heap.push emptyDict) (t':=s.toks) (fun b u q=>Heap.get?_push_of_some _ q) (Nat.le_refl _) (exD_ok (Heap.Ns1.of_empty e3) (fun _=>True.intro) fun y hy=>absurd rfl hy)
 have hx2:=Heap.get?_update_self (fun o:Obj=>{ o with dict:=some s.heap.objs.size }) hx1 rfl
 have I2:=I1.write (x:=e) (e:=e) (o:=excO e C (some s.heap.objs.size)) (h':=(s.heap.push emptyDict).update e fun o=>{ o with dict:=some s.heap.objs.size }) (t':=s.toks) (by rw [upd_ne nes,he];exact True.intro) (.inl rfl)
  (fun b q hb z=>(Heap.get?_update_ne _ _ _ _ hb).trans z) ⟨_,hx2⟩ (excO_ok hx2)
 have I3:=I2.write (x:=s.heap.objs.size) (e:=s.heap.objs.size) (o:=exD s.heap.objs.size [(f,y)]) (h':=h') (t':=s.toks+1+1) (by rw [upd_ne nes.symm,upd_same];exact True.intro) (.inl rfl) (fun b q hb z=>?_) (let ⟨o,_,_,ho,_⟩:=hn;⟨o,ho⟩)
  (exD_ok hn (fun g=>?_) fun g hg=>?_)
 ·have e1:upd (upd (upd H s.heap.objs.size (exD s.heap.objs.size [])) e (excO e C (some s.heap.objs.size))) s.heap.objs.size (exD s.heap.objs.size [(f,y)])=upd (upd H e (excO e C (some s.heap.objs.size))) s.heap.objs.size (exD s.heap.objs.size [(f,y)]):=by
   funext b
   unfold upd
   split
   ·rfl
   ·split
    ·rfl
    ·rfl
  rw [e1] at I3
  exact I3
 ·by_cases hbe:b=e
  ·subst hbe
   have z':some q=some _:=z.symm.trans hx2
   cases z'
   exact hx'
  ·have z1:(s.heap.push emptyDict).get? b=some q:=(Heap.get?_update_ne _ _ _ _ hbe).symm.trans z
   have z2:s.heap.get? b=some q:=by
    rcases Heap.get?_push_cases z1 with z|z
    ·exact absurd z.1 hb
    ·exact z
   exact hk b q hbe z2
 ·have e2:List.lookup g [(f,y)]=if g=f then some y else none:=lookup_putF f g y []
  rw [e2]
  by_cases q:g=f
  ·rw [if_pos q,if_pos q];exact ry
  ·rw [if_neg q,if_neg q];exact True.intro
 ·by_cases q:g=f
  ·subst q;simp
  ·exact absurd (if_neg q) hg
end
section
variable {X:Cx} {CX:CXT} {k:Nat} {f C:Addr} {fd:FuncData} {ps:List Str} {sp:Sp} {dvs:List V} {ds:List Value} {E:XK} {B newId initId:String} {bm:List Value}
theorem run_makeX {pins:List (Addr×Obj)} {σ:St} {H:Hp} {s:Shared} {Q:VK} {us:List Value} {vs:List V} (BF:ExcBaseFacts B newId initId bm) (XC:XCls X.K C B newId) (hi:findIn X.K (.ref C) "__init__" = some (some (.ref f))) (hf:isFn X.K (.ref f)=true) (F:FnOk X.prog X.w X.K X.mg X.base CX k f fd ps sp) (hr:Room (k+1) X.A)
 (hb:Binds X.K fd ps ds) (hd:Vals dvs ds) (hx:Passes CX X E) (I:Inv X pins σ H s) (r:Vals vs us) (hz:us.length≤sizeLine)
 (h:∀ e,H e=none->sp (.ref e::(vs++dvs)) (upd H e (excO e C none)) (fun v H2=>v=.non/\Q (.ref e) H2) E) :
 wpAny (model X.prog X.w) X.A (call (.ref C) us) (EP X pins σ Q) X.xe s:=by
 obtain ⟨hh,g,d,t,os⟩:=s
 have hq:=h (hh.objs.size+1) (I.hok.fresh (Nat.le_succ _))
 have hget:((hh.push { cls:=.type "tuple",data:=.seq us.toArray }).push (excNew C hh.objs.size)).get? (hh.objs.size+1)=some (excNew C hh.objs.size):=by
  have:=Heap.get?_push_size (hh.push { cls:=.type "tuple",data:=.seq us.toArray }) (o:=excNew C hh.objs.size) rfl
  rwa [Heap.size_push] at this
 have I2:Inv X pins σ (upd H (hh.objs.size+1) (excO (hh.objs.size+1) C none)) ⟨(hh.push { cls:=.type "tuple",data:=.seq us.toArray }).push (excNew C hh.objs.size),g,d,t,os⟩:=
  I.laid (h':=(hh.push { cls:=.type "tuple",data:=.seq us.toArray }).push (excNew C hh.objs.size)) (t':=t) (fun b u q=>Heap.get?_push_of_some _ (Heap.get?_push_of_some _ q)) (Nat.le_succ _) (excO_ok hget)
 have r2:Vals (V.ref (hh.objs.size+1)::(vs++dvs)) (Value.ref (hh.objs.size+1)::(us++ds)):=.cons rfl (r.append hd)
 have hl:(Value.ref (hh.objs.size+1)::us++ds).length=ps.length:=by
  have e:=r2.length
  rw [F.len _ _ _ _ hq] at e
  exact e.symm
 refine wpAny_call (makeX_core BF (makesX_of I.kIn XC.mks) (looks_findIn I.kIn hi) (fun self=>bind_fn I.kIn self (beq_iff_eq.mp hf)) hz (codeAny_mono (F.run _ X.stack _ _ ⟨Value.ref (hh.objs.size+1)::us,[]⟩ (Value.ref (hh.objs.size+1)::(us++ds)) _ _ E (hr.make C us [])
  (I2.env0.make C us []) (hb _ (Value.ref (hh.objs.size+1)::us) I2.kIn hl) r2 hq) fun r s' hq'=>?_))
 match r,hq' with
 |.error e,hq'=>exact hx pins σ _ _ e s' I2 hq'
 | .ok (.ret u),hq'=>
   obtain ⟨v,H',I3,rv,ev,q3⟩:=I2.after hq'
   subst ev
   exact ⟨rv,⟨V.ref (hh.objs.size+1),H',I3,rfl,q3⟩⟩
def tMakeX (C:Addr) (sp:Sp) (dvs:List V) (E:XK) (t:TA):TE:=fun σ H Q=>t σ H fun vs H1=>∀ e,H1 e=none->sp (.ref e::(vs++dvs)) (upd H1 e (excO e C none)) (fun v H2=>v=.non/\Q (.ref e) H2) E
theorem pe_makeX {x:Str} {p pos:Pos} {e:Expr} {es:List Expr} {t:TA} (BF:ExcBaseFacts B newId initId bm) (XC:XCls X.K C B newId) (hi:findIn X.K (.ref C) "__init__" = some (some (.ref f))) (hf:isFn X.K (.ref f)=true) (F:FnOk X.prog X.w X.K X.mg X.base CX k f fd ps sp) (hr:Room (k+1) X.A)
 (hg:Gl X x) (hm:X.mg x=some (.ref C)) (hb:Binds X.K fd ps ds) (hd:Vals dvs ds) (hx:Passes CX X E) (ha:PA X (e::es) t) (hdb:(x == ("__debug__" : Str))=false:=by decide) (he:starEach (e::es) X.env=(false,eval e X.env)::starEach es X.env:=by rfl) (hpl:(backTo pos (starEach es X.env)).any (·.1)=false:=by rfl) (hle:ps.length≤20:=by decide) :
 PE X (.Call (.Name x p) (e::es) [] pos) (tMakeX C sp dvs E t):=by
 intro pins s σ H Q I h
 refine wpAny_Call_Name_kw (ld_glob I hg hm ?_ hdb)
 refine callWith_K (h₀:=X.base) I.ok.mod.kin XC.kp (thn (ha pos pins s σ H _ I h) fun us s1 ⟨vs,H1,I1,r,q⟩=>⟨I1.kIn,?_⟩) he hpl
 refine run_makeX BF XC hi hf F hr hb hd hx I1 r ?_ q
 have h1:=F.len _ _ _ _ (q (s1.heap.objs.size) (I1.hok.fresh (Nat.le_refl _)))
 rw [List.length_cons,List.length_append] at h1
 have h2:=r.length
 exact Nat.le_trans (show us.length≤20 by omega) (by decide)
end
def unt (H:Hp) (a:Addr):Hp:=fun b=>if b=a then none else H b
theorem unt_same {H:Hp} {a:Addr}:unt H a a=none:=if_pos rfl
theorem unt_ne {H:Hp} {a b:Addr} (h:b≠a):unt H a b=H b:=if_neg h
theorem unt_none {H:Hp} {a b:Addr} (h:H b=none):unt H a b=none:=by
 unfold unt
 split
 ·rfl
 ·exact h
section
variable {X:Cx} {pins:List (Addr×Obj)} {σ:St} {H:Hp} {s:Shared} {e C:Addr} {dd:Option Addr}
theorem Inv.unt (I:Inv X pins σ H s) (he:H e=some (excO e C dd)):Inv X pins σ (L2.unt H e) s:=by
 have up:∀ b u,H b=some u->u≠excO e C dd->L2.unt H e b=some u:=fun b u z hu=>by
  by_cases q:b=e
  ·subst q;rw [he] at z;exact absurd (Option.some.inj z).symm hu
  ·rw [unt_ne q];exact z
 refine ⟨I.ok,I.os,I.bare,⟨I.base.keep,I.base.slot,fun b o z n hx=>unt_none (I.base.free b o z n hx),I.base.there,fun b xs z=>up b _ (I.base.tups b xs z) (by intro q;cases q),fun b o u z=>up b _ (I.base.frzs b o u z) (by intro q;cases q),fun b ps z=>?_⟩,I.loc,I.cell,unt_none I.free,fun x c z=>unt_none (I.freeC x c z),fun p hp=>?_,fun b u z=>?_,I.len⟩
 ·obtain ⟨m,q⟩:=I.base.tbls b ps z
  exact ⟨m,up b _ q (by intro q;cases q)⟩
 ·obtain ⟨p1,p2,p3⟩:=I.pin p hp
  exact ⟨p1,unt_none p2,p3⟩
 ·by_cases q:b=e
  ·subst q;rw [unt_same] at z;cases z
  ·rw [unt_ne q] at z
   exact (I.hok b u z).stay (fun c v _ r=>r) (fun c r=>up c _ r (by intro q;cases q)) fun c xs r=>up c _ r (by intro q;cases q)
def tRaise (X:Cx) (B newId:String) (W:XK) (te:TE):TS:=fun _ σ H=>te σ H fun x H1=>∃ e C dd,x=.ref e/\H1 e=some (excO e C dd)/\X.H₀ e=none/\XCls X.K C B newId/\W (.ref C) dd (unt H1 e)
theorem ps_raise {ex:Expr} {pos:Pos} {te:TE} {W:XK} {B newId:String} (he:PE X ex te) (hcalm:X.calm=true) (hex:X.ex=[])
 (hxe:∀ (pins:List (Addr×Obj)) (σ:St) (H':Hp) (s':Shared) (e:Addr) (cls:Value) (dd:Option Addr),Inv X pins σ H' s'->ExcOk s'.heap H' X.s₀.heap e cls dd->W cls dd H'->X.xe (.ref e) s'):PS X (.Raise (some ex) none pos) (tRaise X B newId W te):=by
 intro pins s σ H D I h
 rw [arm_exec_Raise]
 have key:∀ xs:Sem Value,wpAny (model X.prog X.w) X.A xs (EP X pins σ fun x H1=>∃ e C dd,x=.ref e/\H1 e=some (excO e C dd)/\X.H₀ e=none/\XCls X.K C B newId/\W (.ref C) dd (L2.unt H1 e)) X.xe s->wpAny (model X.prog X.w) X.A (raiseStmt X.env (some xs) none) (SP X pins D) X.xe s:=by
  intro xs hxs
  unfold raiseStmt
  refine wpAny_bind (thn hxs fun v s1 ⟨x,H1,I1,r1,e,C,dd,ex',hx,h0,XC,q⟩=>?_)
  subst ex'
  cases (show v=Value.ref e from r1)
  obtain ⟨a0,hg⟩:=exc_at I1 hx
  have Y:=makesX_of (M:=model X.prog X.w) I1.kIn XC.mks
  obtain ⟨⟨oc,od,cd,sl,hC,e1,e2,e4⟩,made,base,self,isB,isE,noA,noN,call,typ⟩:=Y
  have T1:Looks (model X.prog X.w) s1.heap (typeOf (.ref e)) (.ref C):=(Looks.ld hg).andThen .now
  have fin:X.xe (.ref e) s1:=by
   refine hxe pins σ _ s1 e (.ref C) dd (I1.unt hx) ⟨_,_,hg,rfl,rfl,rfl,?_,unt_same,.inl rfl⟩ q
   cases z:X.s₀.heap.get? e with
   |none=>rfl
   | some o=>
     have:=I1.base.free e o z h0 (by rw [hex];simp)
     rw [hx] at this;cases this
  have T2:Looks (model X.prog X.w) s1.heap (typeOf (.ref C)) (.type "type"):=looks_typeIn I1.kIn XC.ty
  have T3:Looks (model X.prog X.w) s1.heap (isInstance (.ref e) (.type "BaseException")) true:=T1.andThen isE
  have hh:X.A.handled=none:=I1.ok.hd hcalm
  clear I1 r1 hxs he h I XC made base self isB noA noN call typ
  obtain ⟨hp,g,d,tk,os⟩:=s1
  repeat (first|with_reducible refine wpAny_loadPart_at hg ?_|with_reducible refine T3.at ?_|with_reducible refine T1.at ?_|with_reducible refine T2.at ?_|wp_step)
  exact wpAny_raiseNew_none hh fin
 first
  |exact wpAny_bind (wpAny_standAt (key _ (wpAny_bind (thn (he pins s σ H _ I h) fun v s1 z=>wpAny_bind (wpAny_standAt (wpAny_pure z))))))
  |(simp only [evalOpt,Option.map];exact wpAny_bind (wpAny_standAt (key _ (wpAny_bind (thn (he pins s σ H _ I h) fun v s1 z=>wpAny_bind (wpAny_standAt (wpAny_pure z)))))))
end
section
variable {X:Cx} {pins:List (Addr×Obj)} {σ:St} {H:Hp} {s:Shared} {e C:Addr} {f:Str} {B newId initId:String} {bm:List Value} {A:Around} {E:Value->Shared->Prop} {y:V} {u:Value} {Q:Unit->Shared->Prop}
theorem setX_old {da:Addr} {fs:List (Str×V)} (I:Inv X pins σ H s) (he:H e=some (excO e C (some da))) (hd:H da=some (exD da fs)) (hl:fs.length<1000) (XC:XCls X.K C B newId) (ht:takerIn X.K C f=some none) (ry:RelV y u)
 (h:∀ s',Inv X pins σ (upd H da (exD da (putF f y fs))) s'->Q () s'):wpAny (model X.prog X.w) A (setAttr (.ref e) f u) Q E s:=by
 obtain ⟨a0,hx⟩:=exc_at I he
 obtain ⟨mA,hn,r,wi⟩:=(show ObjOk X.prog X.w H s.heap da (exD da fs) from I.hok da _ hd).1
 obtain ⟨od,hod,_⟩:=lookIn_ns hn
 have J:InstAt s.heap e _ C (some od):=⟨hx,rfl,rfl,hod⟩
 obtain ⟨cd,rs,bm,hc,hdct,_⟩:=XC.cd
 refine set_plain I.kIn J XC.sa (osaX (s:={ s with toks:=s.toks+1 }) I.kIn J XC ht fun b=>storeX_old (s:={ s with toks:=s.toks+1 }) (ns:=fs.map (·.1)) I.kIn hx hc hdct hn wi (by rw [List.length_map];exact hl) fun h' hn' hs=>?_)
 refine h _ (I.write (x:=da) (e:=da) (h':=h') (t':=s.toks+1+1) (by rw [hd];exact True.intro) (.inl rfl) (fun b q hb z=>(hs.2 b hb).trans z) (let ⟨o,_,_,ho,_⟩:=hn';⟨o,ho⟩) (exD_ok hn' (fun g=>?_) fun g hg=>?_))
 ·show RelO ((putF f y fs).lookup g) (if g=f then some u else mA g)
  rw [lookup_putF]
  by_cases q:g=f
  ·rw [if_pos q,if_pos q];exact ry
  ·rw [if_neg q,if_neg q];exact r g
 ·by_cases q:g=f
  ·rw [q];exact (keys_putF f y fs).1
  ·refine (keys_putF f y fs).2 g (wi g fun z=>hg ?_)
   show (if g=f then some u else mA g)=none
   rw [if_neg q];exact z
def sFldX (K:Frag) (B newId:String) (ta tv:TE) (f:Str):TS:=fun D σ H=>tv σ H fun y H1=>ta σ H1 fun x H2=>∃ e C,x=.ref e/\XCls K C B newId/\takerIn K C f=some none/\
 ((H2 e=some (excO e C none)/\∀ da,H2 da=none->D.nx σ (upd (upd H2 e (excO e C (some da))) da (exD da [(f,y)])))∨
   ∃ da fs,H2 e=some (excO e C (some da))/\H2 da=some (exD da fs)/\fs.length<1000/\D.nx σ (upd H2 da (exD da (putF f y fs))))
theorem ps_fldX {o value:Expr} {pos pos':Pos} {ta tv:TE} (ha:PE X o ta) (hv:PE X value tv) (hs:swapsWith value (some (.Attribute o f pos')) pos.line X.env=pure false):PS X (.Assign [.Attribute o f pos'] value pos) (sFldX X.K B newId ta tv f):=by
 intro pins s σ H D I h
 refine plainObj_wpAny_Assign_Attribute (thn (hv pins s σ H _ I h) fun u s1 ⟨y,H1,I1,ry,q⟩=>thn (ha pins s1 σ H1 _ I1 q) fun ov s2 ⟨x,H2,I2,rx,e,C,ex,XC,ht,q2⟩=>?_) hs
 subst ex
 cases (show ov=Value.ref e from rx)
 rcases q2 with ⟨he,q2⟩|⟨da,fs,he,hd,hl,q2⟩
 ·exact setX_new I2 he XC ht ry fun da s' hda I3=>⟨σ,_,I3,q2 da hda⟩
 ·exact setX_old I2 he hd hl XC ht ry fun s' I3=>⟨σ,_,I3,q2⟩
theorem call_initX (BF:ExcBaseFacts B newId initId bm):CallR X (.builtin initId) (fun xs H Q=>∃ e C dd y,xs=[.ref e,y]/\H e=some (excO e C dd)/\XCls X.K C B newId/\Q .non H):=by
 intro pins s σ H xs us Q I r h
 obtain ⟨e,C,dd,y,rfl,he,XC,q⟩:=h
 cases r with
 | cons r1 r=>
   cases r with
   | cons r2 r=>
     cases r
     rename_i u1 u2
     cases (show u1=Value.ref e from r1)
     obtain ⟨a0,hg⟩:=exc_at I he
     have Y:=makesX_of (M:=model X.prog X.w) I.kIn XC.mks
     have T1:Looks (model X.prog X.w) s.heap (typeOf (.ref e)) (.ref C):=(Looks.ld hg).andThen .now
     have T3:Looks (model X.prog X.w) s.heap (isInstance (.ref e) (.type B)) true:=T1.andThen Y.isB
     have hshort:=BF.noStar
     refine wpAny_call (codeAny_call_builtin BF.init.plain BF.initEntry ?_)
     simp only [checkBuiltinCall,BF.initKind,BF.initSplit,BF.initRow]
     refine wpAny_bind (T3.here ?_)
     simp only [Bool.not_true,Bool.false_eq_true,if_false]
     obtain ⟨oc,od,cd,sl,hC,e1,e2,e4⟩:=Y.obj
     have T2:=Y.typ
     obtain ⟨hp,g,d,tk,os⟩:=s
     unfold Bind.checkArgs
     repeat (first|with_reducible refine wpAny_loadPart_at hg ?_|with_reducible refine wpAny_loadPart_at hC ?_|with_reducible refine T1.at ?_|wp_step)
     have fin:∀ tk',EP X pins σ Q .none ⟨(hp.push { cls:=Value.type "tuple",data:=Data.seq #[u2] }).update e (Obj.mapFields fun x=>x.setIfInBounds 0 (Value.ref hp.objs.size)),g,d,tk',os⟩:=fun tk'=>by
      have hg':hp.get? e=some { cls:=.ref C,dict:=dd,data:=.fields #[a0,.none,.none,.none,.bool false,.none] }:=hg
      have hg1:=Heap.get?_push_of_some (h:=hp) { cls:=Value.type "tuple",data:=Data.seq #[u2] } hg'
      have hg2:=Heap.get?_update_self (Obj.mapFields fun x=>x.setIfInBounds 0 (Value.ref hp.objs.size)) hg1 rfl
      have I1:Inv X pins σ H ⟨hp.push { cls:=Value.type "tuple",data:=Data.seq #[u2] },g,d,tk',os⟩:=I.kept (s:=⟨hp,g,d,tk,os⟩) (t':=tk') fun b o z=>Heap.get?_push_of_some _ z
      have I2:=I1.write (x:=e) (e:=e) (o:=excO e C dd) (h':=(hp.push { cls:=Value.type "tuple",data:=Data.seq #[u2] }).update e (Obj.mapFields fun x=>x.setIfInBounds 0 (Value.ref hp.objs.size))) (t':=tk') (by rw [he];exact True.intro) (.inl rfl) (fun b q hb z=>(Heap.get?_update_ne _ _ _ _ hb).trans z) ⟨_,hg2⟩ (excO_ok (a0:=.ref hp.objs.size) hg2)
      have eH:upd H e (excO e C dd)=H:=by
       funext b
       unfold upd
       split
       ·rename_i q;rw [q,he]
       ·rfl
      rw [eH] at I2
      exact ⟨.non,H,I2,rfl,q⟩
     cases a0 <;> first|exact wpAny_pure (wpAny_pure (fin _))|exact wpAny_letGo (wpAny_pure (fin _))
end
section
variable {X:Cx} {CX:CXT} {k:Nat} {f C CS:Addr} {fd:FuncData} {ps:List Str} {sp:Sp} {dvs:List V} {ds:List Value} {E:XK} {m tn cn:Str} {T id:String} {p pos apos:Pos} {e:Expr} {es:List Expr} {t:TA} {r:List V->Hp->VK->Prop} {mc:Value}
def tCallR (r:List V->Hp->VK->Prop) (t:TA):TE:=fun σ H Q=>t σ H fun vs H1=>r vs H1 Q
theorem pe_typeMeth {pl:Sem Bool} (hg:Gl X tn) (hm:X.mg tn=none) (hv:bootBuiltins tn=some (.type T)) (ht:typeOf (.type T)=pure (.type "type")) (hs:Manifest.isStub T=false) (fc:findCls X.K (.type T) (.type "type") m=some (.val (.builtin id))) (hc:CallR X (.builtin id) r) (ha:PA X (e::es) t) (hh:handedIn (.builtin id)=true:=by rfl)
 (hn:tn ≠ "__name__":=by decide) (hdb:(tn == ("__debug__" : Str))=false:=by decide) (hst:starEach (e::es) X.env=(false,eval e X.env)::starEach es X.env:=by rfl) (hpl:(backTo pos (starEach es X.env)).any (·.1)=false:=by rfl)
 (hte:eval (.Call (.Attribute (.Name tn p) m apos) (e::es) [] pos) X.env=(do
  let ov ← eval (.Name tn p) X.env
  standAt apos.atName
  let (f,first) ← holding [ov] (getMethod ov m pl)
  callWith pos f first (backTo pos (starEach (e::es) X.env)) (backToKw pos (keywordEach [] X.env))):=by rfl) :
 PE X (.Call (.Attribute (.Name tn p) m apos) (e::es) [] pos) (tCallR r t):=by
 intro pins s σ H Q I h
 obtain ⟨mm,F⟩:=I.fr
 refine methodCall_KW (pl:=pl) (ld_blt I hg hm hv (method_type F I.ok.mod.kin ht hs fc hh ?_) hn hdb) hte
 exact callWith_builtin1 (thn (ha pos pins _ σ H _ (I.tok _) h) fun us s1 ⟨vs,H1,I1,r1,q1⟩=>hc pins s1 σ H1 vs us Q I1 r1 q1) hst hpl
theorem pe_clsMeth {pl:Sem Bool} (hg:Gl X cn) (hm:X.mg cn=some (.ref CS)) (sg:specialIn X.K (.ref CS) "__getattribute__" = some (some (.builtin "type.__getattribute__"))) (hr':readsIn X.K CS mc=true) (fc:findCls X.K (.ref CS) mc m=some (.val (.ref f))) (hk:keepIn X.K (.ref f)=true)
 (F:FnOk X.prog X.w X.K X.mg X.base CX k f fd ps sp) (hr:Room k X.A) (hb:Binds X.K fd ps ds) (hd:Vals dvs ds) (hx:Passes CX X E) (ha:PA X (e::es) t) (hdb:(cn == ("__debug__" : Str))=false:=by decide)
 (hst:starEach (e::es) X.env=(false,eval e X.env)::starEach es X.env:=by rfl) (hpl:(backTo pos (starEach es X.env)).any (·.1)=false:=by rfl)
 (hte:eval (.Call (.Attribute (.Name cn p) m apos) (e::es) [] pos) X.env=(do
  let ov ← eval (.Name cn p) X.env
  standAt apos.atName
  let (f,first) ← holding [ov] (getMethod ov m pl)
  callWith pos f first (backTo pos (starEach (e::es) X.env)) (backToKw pos (keywordEach [] X.env))):=by rfl) :
 PE X (.Call (.Attribute (.Name cn p) m apos) (e::es) [] pos) (tCall sp dvs E t):=by
 intro pins s σ H Q I h
 refine methodCall_KW (pl:=pl) (ld_glob I hg hm (method_cls I.kIn sg (cls_value I.kIn hr' fc rfl ?_)) hdb) hte
 refine callWith_K (first:=[]) (h₀:=X.base) I.ok.mod.kin hk (thn (ha pos pins _ σ H _ (I.tok _) h) fun us s1 ⟨vs,H1,I1,r,q⟩=>⟨I1.kIn,?_⟩) hst hpl
 exact run_fn F hr hb hd hx I1 r q
end
end L2
namespace L2
open PySem PySem.Spec PyProof.Rows
section
variable {X:Cx} {pins:List (Addr×Obj)} {σ:List (Option V)} {H H':Hp} {s:Shared} {h':Heap}
theorem Inv.stepN {g':Array GenState} {t':Nat} {d':Drawn} {ch:List Addr} (I:Inv X pins σ H s)
 (hch:∀ b∈ch,X.s₀.heap.get? b=none/\b≠X.env.locals/\(∀ x c,X.env.cells.lookup x=some c->c≠b)/\∀ p∈X.pn++pins,p.1≠b)
 (keep:∀ b o,b≠X.env.locals->b∉X.fs->b∉ch->s.heap.get? b=some o->H b=none->h'.get? b=some o)
 (slot:∀ b o,b≠X.env.locals->b∈X.fs->b∉ch->s.heap.get? b=some o->H b=none->∃ sl,h'.get? b=some { o with slots:=sl }) (free:∀ b o,b∉ch->s.heap.get? b=some o->H b=none->H' b=none)
 (there:∀ b o,b∉ch->s.heap.get? b=some o->∃ o',h'.get? b=some o')
 (tups:∀ b xs,H b=some (.tup xs)->H' b=some (.tup xs)) (frzs:∀ b o u,H b=some (.frz o u)->H' b=some (.frz o u)) (tbls:∀ b ps,H b=some (.tbl ps)->∃ more,H' b=some (.tbl (ps++more)))
 (ns:∀ m,s.heap.Ns X.env.locals m->h'.Ns X.env.locals m) (hok:HOk X.prog X.w H' h') (hg:AllBare g') :
 Inv X pins σ H' { s with heap:=h',gens:=g',drawn:=d',toks:=t' }:=by
 have neL:∀ b o,X.s₀.heap.get? b=some o->b≠X.env.locals:=fun b o e=>Nat.ne_of_lt (Nat.lt_of_lt_of_le (Heap.lt_size e) I.ok.above)
 have neC:∀ b o,X.s₀.heap.get? b=some o->b∉X.ex->b∉ch:=fun b o e hx hb=>by
  rw [(hch b hb).1] at e;cases e
 have cellK:∀ x c,X.env.cells.lookup x=some c->∀ v,s.heap.IsCell c v->h'.IsCell c v:=fun x c e v ⟨o,ho,hd⟩=>by
  have nch:c∉ch:=fun z=>(hch c z).2.2.1 x c e rfl
  by_cases hc:c∈X.fs
  ·obtain ⟨sl,q⟩:=slot c o (I.cne x c e) hc nch ho (I.freeC x c e)
   exact ⟨_,q,hd⟩
  ·exact ⟨o,keep c o (I.cne x c e) hc nch ho (I.freeC x c e),hd⟩
 refine ⟨I.ok,I.os,hg,⟨fun b o e n hb hx=>?_,fun b o e n hb hx=>?_,fun b o e n hx=>?_,fun b o e hx=>?_,fun b xs e=>tups b xs (I.base.tups b xs e),fun b o xs e=>frzs b o xs (I.base.frzs b o xs e),fun b ps e=>?_⟩,?_,fun x c e=>?_,?_,fun x c e=>?_,fun p hp=>?_,hok,I.len⟩
 ·exact keep b o (neL b o e) hb (neC b o e hx) (I.base.keep b o e n hb hx) (I.base.free b o e n hx)
 ·obtain ⟨sl,e1⟩:=I.base.slot b o e n hb hx
  obtain ⟨sl',e2⟩:=slot b _ (neL b o e) hb (neC b o e hx) e1 (I.base.free b o e n hx)
  exact ⟨sl',e2⟩
 ·obtain ⟨o',e1⟩:=I.base.there b o e hx
  exact free b o' (neC b o e hx) e1 (I.base.free b o e n hx)
 ·obtain ⟨o',e1⟩:=I.base.there b o e hx
  exact there b o' (neC b o e hx) e1
 ·obtain ⟨m1,e1⟩:=I.base.tbls b ps e
  obtain ⟨m2,e2⟩:=tbls b _ e1
  exact ⟨m1++m2,by rw [e2,Array.append_assoc]⟩
 ·obtain ⟨m,hn,hl⟩:=I.loc
  refine ⟨m,ns m hn,fun i x v e1 e2 e3=>?_⟩
  obtain ⟨u,r,l⟩:=hl i x v e1 e2 e3
  refine ⟨u,r,?_⟩
  rcases l with l|⟨k,c,e,z⟩
  ·exact .inl l
  ·exact .inr ⟨k,c,e,cellK x c e _ z⟩
 ·obtain ⟨v,z⟩:=I.cell x c e
  exact ⟨v,cellK x c e v z⟩
 ·obtain ⟨m,⟨o,_,_,ho,_⟩,_⟩:=I.loc
  exact free _ o (fun z=>(hch _ z).2.1 rfl) ho I.free
 ·obtain ⟨v,o,ho,hd⟩:=I.cell x c e
  exact free c o (fun z=>(hch c z).2.2.1 x c e rfl) ho (I.freeC x c e)
 ·obtain ⟨e,n,ne,nf,d⟩:=I.pin p hp
  have nch:p.1∉ch:=fun z=>(hch p.1 z).2.2.2 p hp rfl
  exact ⟨keep p.1 p.2 ne nf nch e n,free p.1 p.2 nch e n,ne,nf,d⟩
end
end L2
namespace L2
open PySem PySem.Spec PyProof.Rows PySem.SeqAt PySem.W Builtin.ObjectAttr
section
variable {X:Cx} {pins:List (Addr×Obj)} {σ σ0:St} {H H0:Hp} {s s0:Shared} {e:Addr} {cls:Value} {dd:Option Addr}
theorem catchX {A:Around} {Q:Unit->Shared->Prop} {E:Value->Shared->Prop} (I0:Inv X pins σ0 H0 s0) (I:Inv X pins σ H s) (hst:X.stack=X.env::X.outer) (hfm:X.env.frame=some X.env.locals) (hfr:A.frames=some X.stack) (hex:X.ex=[]) (hth:∀ b o,s0.heap.get? b=some o->∃ o',s.heap.get? b=some o') (x:ExcOk s.heap H s0.heap e cls dd)
 (h:∀ h',ExcOk h' H s0.heap e cls dd->Inv X pins σ H { s with heap:=h' }->Q () { s with heap:=h' }):wpAny (model X.prog X.w) A (noteFrame (.ref e) X.env) (fun _ s2=>wpAny (model X.prog X.w) A (setFlight (.ref e) none) Q E s2) E s:=by
 have hl:=I.stack
 rw [hst] at hfr hl
 obtain ⟨oe,vs,h1,h2,h3,h4,h5,h6,h7⟩:=x
 have free:∀ b∈(X.env::X.outer).filterMap (·.frame),H b=none:=fun b hb=>I.stkFree b (by rw [hst];exact hb)
 have old:∀ T,s0.heap.get? T=none->X.s₀.heap.get? T=none/\T≠X.env.locals/\(∀ x c,X.env.cells.lookup x=some c->c≠T)/\∀ p∈X.pn++pins,p.1≠T:=fun T hT=>by
  refine ⟨?_,?_,fun x c z q=>?_,fun p hp q=>?_⟩
  ·cases z:X.s₀.heap.get? T with
   |none=>rfl
   | some o=>
     obtain ⟨o',q⟩:=I0.base.there T o z (by rw [hex];simp)
     rw [hT] at q;cases q
  ·rintro rfl
   obtain ⟨_,⟨o,_,_,ho,_⟩,_⟩:=I0.loc
   rw [hT] at ho;cases ho
  ·obtain ⟨v,o,ho,_⟩:=I0.cell x c z
   rw [q,hT] at ho;cases ho
  ·have:=(I0.pin p hp).1
   rw [q,hT] at this;cases this
 have fin:∀ (ch:List Addr) (h':Heap) (T:Addr) (oe' oT:Obj) (vs' ts:Array Value),(∀ b∈ch,s0.heap.get? b=none/\H b=none)->s0.heap.get? T=none->T≠e->H T=none->h'.get? e=some oe'->oe'.cls=oe.cls->oe'.dict=oe.dict->oe'.data=.fields vs'->vs'[1]?=some (.ref T)->h'.get? T=some oT->oT.data=.fields ts->ts[3]?=some .none->
  (∀ b o,b∉ch->b∉(X.env::X.outer).filterMap (·.frame)->s.heap.get? b=some o->h'.get? b=some o)->(∀ b o,b∉ch->s.heap.get? b=some o->∃ sl,h'.get? b=some { o with slots:=sl })->Q () { s with heap:=h' }:=by
  intro ch h' T oe' oT vs' ts hch hT hTe hTn g1 g2 g3 g4 g5 g6 g7 g8 kp ks
  refine h h' ⟨oe',vs',g1,g2.trans h2,g3.trans h3,g4,h5,h6,.inr ⟨T,oT,ts,g5,hTe,g6,g7,g8,hT,hTn⟩⟩ ?_
  have ninF:∀ b,b≠X.env.locals->b∉X.fs->b∉(X.env::X.outer).filterMap (·.frame):=fun b hb hn hm=>by
   rw [List.filterMap_cons,hfm] at hm
   rcases List.mem_cons.mp hm with q|hm
   ·exact hb q
   ·exact hn hm
  refine I.stepN (ch:=ch) (g':=s.gens) (d':=s.drawn) (t':=s.toks) (fun b hb=>old b (hch b hb).1) (fun b o hL hf hc z _=>kp b o hc (ninF b hL hf) z) (fun b o _ _ hc z _=>ks b o hc z) (fun b o _ _ n=>n) (fun b o hc z=>let ⟨sl,q⟩:=ks b o hc z;⟨_,q⟩) (fun _ _ z=>z) (fun _ _ _ z=>z) (fun b ps z=>⟨#[],by rw [z];simp⟩) (fun m hm=>?_) (fun b u hb=>?_) I.bare
  ·obtain ⟨o,es,ep,ho,hd,r⟩:=hm
   have hnl:X.env.locals∉ch:=fun z=>(old _ (hch _ z).1).2.1 rfl
   obtain ⟨sl,q⟩:=ks _ o hnl ho
   exact ⟨_,es,ep,q,hd,r⟩
  ·refine (I.hok b u hb).stay (fun c v hc q=>kp c v (fun z=>?_) (fun hm=>?_) q) (fun _ q=>q) fun _ _ q=>q
   ·have:=(hch c z).2
    rcases hc with rfl|w
    ·rw [this] at hb;cases hb
    ·rw [this] at w;cases w
   ·have:=free c hm
    rcases hc with rfl|w
    ·rw [this] at hb;cases hb
    ·rw [this] at w;cases w
 have newT:∀ T,s.heap.objs.size≤T->s0.heap.get? T=none/\T≠e/\H T=none:=fun T hT=>by
  refine ⟨?_,fun q=>?_,I.hok.fresh hT⟩
  ·cases z:s0.heap.get? T with
   |none=>rfl
   | some o=>
     obtain ⟨o',q⟩:=hth T o z
     exact absurd (Nat.lt_of_lt_of_le (Heap.lt_size q) hT) (Nat.lt_irrefl _)
  ·subst q;exact absurd (Nat.lt_of_lt_of_le (Heap.lt_size h1) hT) (Nat.lt_irrefl _)
 unfold noteFrame
 simp only [hfm]
 rcases h7 with h7|⟨T,oT,ts,t1,t2,t3,t4,t5,t6,t7⟩
 ·refine wpAny_bind (wpAny_field h1 h4 h7 ?_)
  rw [if_neg (by decide)]
  refine entryX hfr hl hfm h1 h4 (Array.getElem?_eq_some_iff.mp h7).1 fun h' T oe' oT vs' ts hT g1 g2 g3 g4 g5 g6 g7 g8 kp ks=>?_
  obtain ⟨n1,n2,n3⟩:=newT T hT
  exact fin [e] h' T oe' oT vs' ts (fun b hb=>by cases List.mem_singleton.mp hb;exact ⟨h5,h6⟩) n1 n2 n3 g1 g2 g3 g4 g5 g6 g7 g8 (fun b o hb hm z=>kp b o (fun q=>hb (by simp [q])) hm z) fun b o hb z=>ks b o (fun q=>hb (by simp [q])) z
 ·refine wpAny_bind (wpAny_field h1 h4 t1 ?_)
  rw [if_pos (show (Value.ref T != Value.none)=true by simp)]
  refine wpAny_bind (wpAny_field t3 t4 t5 ?_)
  rw [if_neg (show ¬ ((Value.none == rawInt X.env.locals)=true) by simp [rawInt])]
  refine wpAny_bind (wpAny_setField t3 t4 (Array.getElem?_eq_some_iff.mp t5).1 ?_)
  have other:∀ b,b≠T->(s.heap.update T (Obj.mapFields (·.setIfInBounds 3 Value.none))).get? b=s.heap.get? b:=fun b hb=>Heap.get?_update_other _ _ (Ne.symm hb)
  have noR:∀ b o,s.heap.get? b=some o->(∀ vs,o.data≠.fields vs)->b≠T:=fun b o hb hnf q=>by
   subst q
   rw [t3] at hb
   cases hb
   exact hnf ts t4
  refine entryX (s:={ s with heap:=s.heap.update T (Obj.mapFields (·.setIfInBounds 3 Value.none)) }) hfr (hl.of_keeps fun b o hb hnf=>⟨o,(other b (noR b o hb hnf)).trans hb,rfl⟩) hfm ((other e (Ne.symm t2)).trans h1) h4 (Array.getElem?_eq_some_iff.mp t1).1 fun h' T' oe' oT' vs' ts' hT g1 g2 g3 g4 g5 g6 g7 g8 kp ks=>?_
  have hT':s.heap.objs.size≤T':=by
   have z:(s.heap.update T (Obj.mapFields (·.setIfInBounds 3 Value.none))).objs.size=s.heap.objs.size:=Heap.size_update _ _ _
   exact Nat.le_trans (Nat.le_of_eq z.symm) hT
  obtain ⟨n1,n2,n3⟩:=newT T' hT'
  refine fin [e,T] h' T' oe' oT' vs' ts' (fun b hb=>?_) n1 n2 n3 g1 g2 g3 g4 g5 g6 g7 g8 (fun b o hb hm z=>kp b o (fun q=>hb (by simp [q])) hm ((other b fun q=>hb (by simp [q])).trans z)) fun b o hb z=>ks b o (fun q=>hb (by simp [q])) ((other b fun q=>hb (by simp [q])).trans z)
  rcases List.mem_cons.mp hb with rfl|hb
  ·exact ⟨h5,h6⟩
  ·cases List.mem_singleton.mp hb;exact ⟨t6,t7⟩
end
theorem upd_id {h:Heap} {a:Addr} {o:Obj} {f:Obj->Obj} (e:h.get? a=some o) (hf:f o=o):h.update a f=h:=by
 obtain ⟨objs,l⟩:=h
 have e':objs[a]?=some o:=by
  unfold Heap.get? at e
  dsimp only at e
  split at e
  ·cases e
  ·exact e
 show (⟨objs.modify a f,l⟩:Heap)=⟨objs,l⟩
 congr 1
 obtain ⟨hlt,e2⟩:=Array.getElem?_eq_some_iff.mp e'
 refine Array.ext (by simp) fun i h1 h2=>?_
 rw [Array.getElem_modify]
 split
 ·rename_i q
  subst q
  rw [e2,hf]
 ·rfl
section
variable {X:Cx} {pins:List (Addr×Obj)} {σ σ0:St} {H H0:Hp} {s s0:Shared} {e:Addr} {cls:Value} {dd:Option Addr}
theorem Inv.drop (I:Inv X pins σ H s) (i:Nat):Inv X pins (σ.set i none) H s:=by
 obtain ⟨ok,os,bare,base,⟨m,hn,hl⟩,cell,free,freeC,pin,hok,len⟩:=I
 refine ⟨ok,os,bare,base,⟨m,hn,fun j x v e1 e2 e3=>?_⟩,cell,free,freeC,pin,hok,by simpa using len⟩
 by_cases hj:j=i
 ·subst hj
  rw [List.getElem?_set] at e2
  split at e2 <;> simp_all
 ·rw [List.getElem?_set_ne (Ne.symm hj)] at e2
  exact hl j x v e1 e2 e3
theorem unbindX {M:Model} {A:Around} {E:Value->Shared->Prop} {i:Nat} {x:Str} {pos:Pos} {Q:Unit->Shared->Prop} (I:Inv X pins σ H s) (hN:X.N.Nodup) (hi:X.N[i]?=some x) (hx:X.env.scope.names.lookup x=some .local)
 (h:∀ s',Inv X pins (σ.set i none) H s'->Q () s'):wpAny M A (do bindName X.env x .none;unbindBehindTheSuite X.env x pos) Q E s:=by
 have hcls:(X.env.scope.kind == .class || (X.env.scope.kind == .module && X.env.locals != X.env.globals))=false:=by rw [I.ok.kind];rfl
 have hiσ:i<σ.length:=by rw [I.len];exact (List.getElem?_eq_some_iff.mp hi).1
 refine wpAny_bind (wpAny_bindName (store_ok I hN hi (.inl hx) (v:=.non) (u:=.none) rfl (fun s1 I1=>?_) (.inr hx)))
 obtain ⟨m,hn,hl⟩:=id I1.loc
 obtain ⟨u,_,lk⟩:=hl i x .non hi (by rw [List.getElem?_set_self hiσ]) (.inl hx)
 have hv:m x=some u:=by
  rcases lk with ⟨_,z⟩|⟨k,_⟩
  ·exact z
  ·unfold Env.kindOf at k
   rw [hx] at k
   rcases k with k|k <;> cases k
 unfold unbindBehindTheSuite
 refine wpAny_onRaise (wpAny_unbindName_local hx hn hv hcls fun h' u' hn' hs=>?_)
 have I2:=I1.drop i
 rw [List.set_set] at I2
 obtain ⟨ok,os,bare,base,⟨m2,hn2,hl2⟩,cell,free,freeC,pin,hok,len⟩:=id I2
 obtain ⟨oL,_,_,hoL,_⟩:=id hn
 have neL:∀ b o,X.s₀.heap.get? b=some o->b≠X.env.locals:=fun b o e=>Nat.ne_of_lt (Nat.lt_of_lt_of_le (Heap.lt_size e) ok.above)
 refine h _ ⟨ok,os,bare,⟨fun b o e n hb hx=>?_,fun b o e n hb hx=>?_,base.free,fun b o e hx=>?_,base.tups,base.frzs,base.tbls⟩,⟨_,hn',fun j y v' e1 e2 e3=>?_⟩,fun y c e=>?_,free,freeC,fun p hp=>?_,fun b ob e=>?_,len⟩
 ·exact (hs.2 b (neL b o e)).trans (base.keep b o e n hb hx)
 ·obtain ⟨sl,e1⟩:=base.slot b o e n hb hx
  exact ⟨sl,(hs.2 b (neL b o e)).trans e1⟩
 ·obtain ⟨o',e1⟩:=base.there b o e hx
  exact ⟨o',(hs.2 b (neL b o e)).trans e1⟩
 ·have hj:j≠i:=fun q=>by
   subst q
   rw [List.getElem?_set_self hiσ] at e2;cases e2
  rw [List.getElem?_set_ne (Ne.symm hj)] at e2
  obtain ⟨u'',r',q⟩:=hl j y v' e1 (by rw [List.getElem?_set_ne (Ne.symm hj)];exact e2) e3
  refine ⟨u'',r',?_⟩
  rcases q with ⟨k,e⟩|⟨k,c,e,z⟩
  ·refine .inl ⟨k,?_⟩
   have:y≠x:=fun e=>hj (nodup_ix hN e1 (e ▸ hi))
   simp [this,e]
  ·exact .inr ⟨k,c,e,z.sameBut hs (I1.cne y c e)⟩
 ·obtain ⟨w',z⟩:=I1.cell y c e
  exact ⟨w',z.sameBut hs (I1.cne y c e)⟩
 ·obtain ⟨e,n,ne,nf,d⟩:=pin p hp
  exact ⟨(hs.2 p.1 ne).trans e,n,ne,nf,d⟩
 ·refine (hok b ob e).stay (fun c w' hc q=>(hs.2 c ?_).trans q) (fun _ q=>q) fun _ _ q=>q
  rintro rfl
  rcases hc with rfl|hc
  ·rw [free] at e;cases e
  ·rw [free] at hc;cases hc
theorem setFlightX {M:Model} {A:Around} {Q:Unit->Shared->Prop} {E:Value->Shared->Prop} (x:ExcOk s.heap H s0.heap e cls dd) (h:Q () s):wpAny M A (setFlight (.ref e) none) Q E s:=by
 obtain ⟨oe,vs,h1,h2,h3,h4,h5,h6,h7⟩:=x
 unfold setFlight
 rcases h7 with h7|⟨T,oT,ts,t1,t2,t3,t4,t5,t6,t7⟩
 ·refine wpAny_bind (wpAny_field h1 h4 h7 ?_)
  rw [if_neg (by decide)]
  exact wpAny_pure h
 ·refine wpAny_bind (wpAny_field h1 h4 t1 ?_)
  rw [if_pos (show (Value.ref T != Value.none)=true by simp)]
  refine wpAny_setField t3 t4 (Array.getElem?_eq_some_iff.mp t5).1 ?_
  have:s.heap.update T (Obj.mapFields (·.setIfInBounds 3 ((none:Option Addr).elim Value.none fun f=>rawInt f)))=s.heap:=by
   refine upd_id t3 ?_
   obtain ⟨c,d,da,sl⟩:=oT
   cases (show da=.fields ts from t4)
   show (⟨c,d,.fields (ts.setIfInBounds 3 .none),sl⟩:Obj)=⟨c,d,.fields ts,sl⟩
   have:ts.setIfInBounds 3 .none=ts:=by
    obtain ⟨hlt,e2⟩:=Array.getElem?_eq_some_iff.mp t5
    refine Array.ext (by simp) fun i h1 h2=>?_
    rw [Array.getElem_setIfInBounds]
    split
    ·rename_i q
     subst q
     exact e2.symm
    ·rfl
   rw [this]
  rw [this]
  exact h
end
def hCx (X:Cx) (ea:Addr) (ps:List (Addr×Obj)):Cx:={ X with A:=X.A.mark (some (.ref ea)),calm:=false,pn:=X.pn++ps,xe:=fun _ _=>False }
section
variable {X:Cx} {pins:List (Addr×Obj)} {σ σ0:St} {H H0:Hp} {s s0:Shared} {e:Addr} {cls:Value} {dd:Option Addr}
theorem Cx.Ok.into (ok:X.Ok) {ea:Addr} {ps:List (Addr×Obj)}:(hCx X ea ps).Ok:=
 ⟨ok.mod,ok.kind,ok.glob,ok.blt,ok.above,ok.inj,ok.has,ok.cab,(fun h=>nomatch h),ok.frames,ok.stk,ok.exf,ok.bs,ok.bsz,ok.noex,ok.exfs,ok.funs,ok.frf⟩
theorem Inv.into (I:Inv X pins σ H s) {ea:Addr} {ps:List (Addr×Obj)} (hp:∀ p∈ps,s.heap.get? p.1=some p.2/\H p.1=none/\p.1≠X.env.locals/\p.1∉X.fs/\∀ v,p.2.data≠.cell v):Inv (hCx X ea ps) pins σ H s:=by
 refine ⟨I.ok.into,I.os,I.bare,I.base,I.loc,I.cell,I.free,I.freeC,fun p h=>?_,I.hok,I.len⟩
 rcases List.mem_append.mp h with h|h
 ·rcases List.mem_append.mp h with h|h
  ·exact I.pin p (List.mem_append_left _ h)
  ·exact hp p h
 ·exact I.pin p (List.mem_append_right _ h)
theorem Inv.outof {ea:Addr} {ps:List (Addr×Obj)} (I:Inv (hCx X ea ps) pins σ H s) (ok:X.Ok):Inv X pins σ H s:=by
 refine ⟨ok,I.os,I.bare,I.base,I.loc,I.cell,I.free,I.freeC,fun p h=>?_,I.hok,I.len⟩
 rcases List.mem_append.mp h with h|h
 ·exact I.pin p (List.mem_append_left _ (List.mem_append_left _ h))
 ·exact I.pin p (List.mem_append_right _ h)
theorem Inv.handle (I0:Inv X pins σ0 H0 s0) (I:Inv X pins σ H s) (x:ExcOk s.heap H s0.heap e cls dd):∃ ps oe,(e,oe)∈ps/\oe.cls=cls/\oe.dict=dd/\(∃ vs,oe.data=.fields vs)/\Inv (hCx X e ps) pins σ H s/\∀ {σ1 H1 s1},Inv (hCx X e ps) pins σ1 H1 s1->ExcOk s1.heap H1 s0.heap e cls dd:=by
 obtain ⟨oe,vs,h1,h2,h3,h4,h5,h6,h7⟩:=x
 have new:∀ T o vs,s0.heap.get? T=none->s.heap.get? T=some o->H T=none->o.data=.fields vs->s.heap.get? T=some o/\H T=none/\T≠X.env.locals/\T∉X.fs/\∀ v,o.data≠.cell v:=fun T o vs hT ho hn hd=>by
  refine ⟨ho,hn,?_,fun q=>?_,fun v q=>by rw [hd] at q;cases q⟩
  ·rintro rfl
   obtain ⟨_,⟨o,_,_,ho,_⟩,_⟩:=I0.loc
   rw [hT] at ho;cases ho
  ·obtain ⟨_,o,ho,_⟩:=I0.funs.mem q
   rw [hT] at ho;cases ho
 rcases h7 with h7|⟨T,oT,ts,t1,t2,t3,t4,t5,t6,t7⟩
 ·refine ⟨[(e,oe)],oe,List.mem_singleton.mpr rfl,h2,h3,⟨_,h4⟩,I.into fun p hp=>?_,fun {σ1 H1 s1} I1=>?_⟩
  ·cases List.mem_singleton.mp hp
   exact new e oe vs h5 h1 h6 h4
  ·have p:=I1.pin (e,oe) (List.mem_append_left _ (List.mem_append_right _ (List.mem_singleton.mpr rfl)))
   exact ⟨oe,vs,p.1,h2,h3,h4,h5,p.2.1,.inl h7⟩
 ·refine ⟨[(e,oe),(T,oT)],oe,List.mem_cons_self,h2,h3,⟨_,h4⟩,I.into fun p hp=>?_,fun {σ1 H1 s1} I1=>?_⟩
  ·rcases List.mem_cons.mp hp with rfl|hp
   ·exact new e oe vs h5 h1 h6 h4
   ·cases List.mem_singleton.mp hp
    exact new T oT ts t6 t3 t7 t4
  ·have p:=I1.pin (e,oe) (List.mem_append_left _ (List.mem_append_right _ List.mem_cons_self))
   have q:=I1.pin (T,oT) (List.mem_append_left _ (List.mem_append_right _ (List.mem_cons_of_mem _ (List.mem_singleton.mpr rfl))))
   exact ⟨oe,vs,p.1,h2,h3,h4,h5,p.2.1,.inr ⟨T,oT,ts,t1,t2,q.1,t4,t5,t6,q.2.1⟩⟩
theorem excMatchC {K:Frag} {P:Program} {w:World} {A:Around} {E:Value->Shared->Prop} {Q:Bool->Shared->Prop} {C Ce:Addr} {B newId:String} {b:Bool} {oe:Obj} (kin:K.In s.heap) (he:s.heap.get? e=some oe) (hcls:oe.cls=.ref Ce) (XC:XCls K C B newId) (hm:mroIn K Ce (.ref C)=some b) (h:Q b s) :
 wpAny (model P w) A (excMatches (.ref e) (.ref C)) Q E s:=by
 have Y:=makesX_of (M:=model P w) kin XC.mks
 obtain ⟨⟨oc,od,cd,sl,hC,_,_,_⟩,_,_,_,_,isE,_,_,_,typ⟩:=Y
 have T1:Looks (model P w) s.heap (typeOf (.ref e)) (.ref Ce):=hcls ▸ (Looks.ld he).andThen .now
 have T2:Looks (model P w) s.heap (typeOf (.ref C)) (.type "type"):=looks_typeIn kin XC.ty
 have T4:Looks (model P w) s.heap (isSubtype (.ref Ce) (.ref C)) b:=looks_mroIn kin hm
 have f:=tc_notTuple
 obtain ⟨hp,g,d,tk,os⟩:=s
 unfold excMatches
 repeat (first|with_reducible refine wpAny_loadPart_at hC ?_|with_reducible refine isE.at ?_|with_reducible refine T4.at ?_|with_reducible refine typ.at ?_|with_reducible refine T1.at ?_|with_reducible refine T2.at ?_|wp_step)
 cases b <;> (wp_walk;exact h)
end
abbrev THs:=Ends->Addr->Option Addr->St->Hp->Prop
def PH (X:Cx) (hs:List ExceptHandler) (th:THs):Prop:=
 ∀ (pins:List (Addr×Obj)) (s0:Shared) (σ0:St) (H0:Hp) (s:Shared) (σ:St) (H:Hp) (D:Ends) (ea Ce:Addr) (dd:Option Addr),Inv X pins σ0 H0 s0->Inv X pins σ H s->ExcOk s.heap H s0.heap ea (.ref Ce) dd->th D Ce dd σ H->wpAny (model X.prog X.w) X.A (handleBy (.ref ea) X.env hs) (SP X pins D) X.xe s
def asEnds (i:Nat) (D:Ends):Ends:=⟨fun σ H=>D.nx (σ.set i none) H,D.rt,fun σ H=>D.bk (σ.set i none) H,fun σ H=>D.ct (σ.set i none) H⟩
def tHand (K:Frag) (C:Addr) (B newId:String) (i:Nat) (tb:Addr->Addr->Option Addr->TS) (tr:THs):THs:=fun D Ce dd σ H=>XCls K C B newId/\∃ b,mroIn K Ce (.ref C)=some b/\if b then ∀ ea,tb ea Ce dd (asEnds i D) (σ.set i (some (.ref ea))) H else tr D Ce dd σ H
section
variable {X:Cx}
theorem ph_nil:PH X [] (fun _ _ _ _ _=>False):=fun _ _ _ _ _ _ _ _ _ _ _ _ _ _ h=>h.elim
theorem ph_cons {t:Expr} {n:Str} {b0:Stmt} {body:List Stmt} {pos:Pos} {rest:List ExceptHandler} {C:Addr} {B newId:String} {i:Nat} {tb:Addr->Addr->Option Addr->TS} {tr:THs} (hN:X.N.Nodup) (hi:X.N[i]?=some n) (hx:X.env.scope.names.lookup n=some .local)
 (ht:∀ ea ps,PE (hCx X ea ps) t (tC (.ref C))) (hb:∀ ea oe ps Ce dd,(ea,oe)∈ps->oe.cls=.ref Ce->oe.dict=dd->(∃ vs,oe.data=.fields vs)->PSs (hCx X ea ps) (b0::body) (tb ea Ce dd)) (hr:PH X rest tr) :
 PH X (.ExceptHandler (some t) (some n) (b0::body) pos::rest) (tHand X.K C B newId i tb tr):=by
 intro pins s0 σ0 H0 s σ H D ea Ce dd I0 I x h
 obtain ⟨XC,b,hm,hk⟩:=h
 obtain ⟨ps,oe,hmem,hc,hd,hvs,IH,back⟩:=I0.handle I x
 refine wpAny_handleBy_cons (codeAny_handlers_test (wpAny_mono (ht ea ps pins s σ H (fun v H1=>v=.ref C/\H1=H) IH ⟨rfl,rfl⟩) (fun c s1 z=>?_) fun _ _ z=>z.elim)) (by intro q;cases q)
 obtain ⟨v,H1,I1,r,rfl,rfl⟩:=z
 cases (show c=Value.ref C from r)
 have p:=I1.pin (ea,oe) (List.mem_append_left _ (List.mem_append_right _ hmem))
 refine excMatchC I1.kIn p.1 hc XC hm ?_
 cases b with
 |false=>exact hr pins s0 σ0 H0 s1 σ H1 D ea Ce dd I0 (I1.outof I.ok) (back I1) hk
 | true=>
   refine codeAny_handlers_suite_as (setFlightX (back I1) (store_ok (X:=hCx X ea ps) I1 hN hi (.inl hx) (v:=.ref ea) rfl (fun s2 I2=>wpAny_mono (hb ea oe ps Ce dd hmem hc hd hvs pins s2 _ _ (asEnds i D) I2 (hk ea)) (fun f s3 z=>?_) fun _ _ z=>z.elim) (.inr hx)))
   show wpAny _ X.A _ _ X.xe s3
   cases f with
   | next=>
     obtain ⟨σ',H',I3,q⟩:=z
     exact unbindX (I3.outof I.ok) hN hi hx fun s' I'=>⟨_,_,I',q⟩
   | brk=>
     obtain ⟨σ',H',I3,q⟩:=z
     exact unbindX (I3.outof I.ok) hN hi hx fun s' I'=>⟨_,_,I',q⟩
   | cont=>
     obtain ⟨σ',H',I3,q⟩:=z
     exact unbindX (I3.outof I.ok) hN hi hx fun s' I'=>⟨_,_,I',q⟩
   | ret u=>
     obtain ⟨v,σ',H',I3,r',q⟩:=z
     exact unbindX (I3.outof I.ok) hN hi hx fun s' I'=>⟨v,_,_,I',r',q⟩
end
section
variable {X:Cx}
def tryE (X:Cx) (pins:List (Addr×Obj)) (s0:Shared) (W:Addr->Option Addr->St->Hp->Prop):Value->Shared->Prop:=fun v s=>∃ ea Ce dd σ H,v=.ref ea/\Inv X pins σ H s/\(∀ b o,s0.heap.get? b=some o->∃ o',s.heap.get? b=some o')/\ExcOk s.heap H s0.heap ea (.ref Ce) dd/\W Ce dd σ H
abbrev TSX:=Ends->(Addr->Option Addr->St->Hp->Prop)->St->Hp->Prop
def PSX (X:Cx) (st:List Stmt) (t:TSX):Prop:=
 ∀ (pins:List (Addr×Obj)) (s:Shared) (σ:St) (H:Hp) (D:Ends) (W:Addr->Option Addr->St->Hp->Prop),Inv X pins σ H s->t D W σ H->wpAny (model X.prog X.w) X.A (execs st X.env) (SP X pins D) (tryE X pins s W) s
def tTry (t:TSX) (th:THs):TS:=fun D σ H=>t D (fun Ce dd σ' H'=>th D Ce dd σ' H') σ H
theorem ps_try {body:List Stmt} {h0:ExceptHandler} {hs:List ExceptHandler} {pos:Pos} {t:TSX} {th:THs} (hst:X.stack=X.env::X.outer) (hfm:X.env.frame=some X.env.locals) (hex:X.ex=[]) (hb:PSX X body t) (hh:PH X (h0::hs) th):PS X (.Try body (h0::hs) [] [] pos) (tTry t th):=by
 intro pins s σ H D I h
 refine wpAny_Try_except (wpAny_mono (hb pins s σ H D _ I h) (fun f s1 z=>?_) fun v s1 z=>?_)
 ·cases f with
  |next=>exact wpAny_execs_nil z
  |brk=>exact z
  |cont=>exact z
  |ret u=>exact z
 ·obtain ⟨ea,Ce,dd,σ1,H1,rfl,I1,th1,x,q⟩:=z
  refine catchX I I1 hst hfm I.ok.frames hex th1 x fun h' x' I2=>hh pins s σ H _ σ1 H1 D ea Ce dd I I2 x' q
end
structure Thunk (P:Program) (w:World) (K:Frag) (mg:Str->Option Value) (base:Heap) (g:Heap) (H₀:Hp) (fr:List Addr) (k:Nat) (f:Addr) (H:Hp) (Qv:VK) (Ev:XK):Prop where
 fn:∀ s:Shared,HOk P w H s.heap->∃ fo fd,s.heap.get? f=some fo/\fo.data=.func fd
 run:∀ (A:Around) (outer:List Env) (s:Shared),Room k A->Env0 P w K mg base A outer s H->(∀ b o,g.get? b=some o->H₀ b=none->b∉fr->s.heap.get? b=some o)->codeAny (model P w) A (.call (.ref f) ⟨[],[]⟩) (CR (CX1 P w) outer P w H s Qv Ev) s
section
variable {X:Cx}
theorem keeps_F {M:Model} {f:Addr} (h:Heap) (z:∃ fo fd,h.get? f=some fo/\fo.data=.func fd):∃ k,(k=Keeper.frame∨k=Keeper.machine∨k=Keeper.boundFrame)/\Looks M h (keeperOf (.ref f)) k:=by
 obtain ⟨fo,fd,e,d⟩:=z
 obtain ⟨c,di,da,sl⟩:=fo
 cases (show da=.func fd from d)
 exact ⟨.frame,.inl rfl,(Looks.ld (part:=none) e).andThen .now⟩
def tThunk (X:Cx) (k i j:Nat):TSX:=fun D W σ H=>∃ f Qv Ev,σ[j]?=some (some (.ref f))/\Thunk X.prog X.w X.K X.mg X.base X.s₀.heap X.H₀ X.fs k f H Qv Ev/\(∀ v H',Qv v H'->D.nx (σ.set i (some v)) H')/\∀ cls dd H',Ev cls dd H'->∃ Ce,cls=.ref Ce/\W Ce dd σ H'
theorem psx_thunk {k i j:Nat} {x a:Str} {px pa pc pos:Pos} (hN:X.N.Nodup) (hi:X.N[i]?=some x) (hx:Loc X.env.scope x) (hj:X.N[j]?=some a) (ha:Vis X.env.scope a) (hex:X.ex=[]) (hr:Room k X.A) (hs:swapsWith (.Call (.Name a pa) [] [] pc) (some (.Name x px)) pos.line X.env=pure false:=by rfl) (hf:X.fn x=true∨X.env.scope.names.lookup x=some .local:=by first|exact .inl rfl|exact .inr rfl|assumption)
 (hd:(a == ("__debug__" : Str))=false:=by decide) (hcd:(a == ("__classdict__" : Str))=false:=by decide) :
 PSX X [.Assign [.Name x px] (.Call (.Name a pa) [] [] pc) pos] (tThunk X k i j):=by
 intro pins s σ H D W I h
 obtain ⟨f,Qv,Ev,e,T,hv,he⟩:=h
 have kp:∀ b o,X.s₀.heap.get? b=some o->X.H₀ b=none->b∉X.fs->s.heap.get? b=some o:=fun b o z n hb=>I.base.keep b o z n hb (by rw [hex];simp)
 have fin:∀ t:Sem Flow,wpAny (model X.prog X.w) X.A t (fun f s1=>f=.next/\∃ v H',Inv X pins (σ.set i (some v)) H' s1/\Qv v H') (tryE X pins s W) s->wpAny (model X.prog X.w) X.A t (SP X pins D) (tryE X pins s W) s:=fun t ht=>thn ht fun f s1 ⟨q,v,H',I1,z⟩=>by subst q;exact ⟨_,_,I1,hv _ _ z⟩
 have one:wpAny (model X.prog X.w) X.A (exec (.Assign [.Name x px] (.Call (.Name a pa) [] [] pc) pos) X.env) (fun f s1=>f=.next/\∃ v H',Inv X pins (σ.set i (some v)) H' s1/\Qv v H') (tryE X pins s W) s:=by
  refine wpAny_Assign_Name (thn (Q:=EP X pins σ Qv) ?_ fun v s1 ⟨y,H1,I1,r1,q1⟩=>store_ok I1 hN hi hx r1 (fun s2 I2=>⟨rfl,y,H1,I2,q1⟩) hf) hs
  refine wpAny_Call_Name_kw ?_
  have named:∀ Q':Value->Shared->Prop,Q' (.ref f) s->wpAny (model X.prog X.w) X.A (eval (.Name a pa) X.env) Q' (tryE X pins s W) s:=fun Q' hq=>by
   obtain ⟨m,hn,hl⟩:=I.loc
   obtain ⟨u,r,l⟩:=hl j a (.ref f) hj e ha
   cases (show u=Value.ref f from r)
   rcases l with ⟨hk,hm⟩|⟨hk,c,hc,hcell⟩
   ·exact wpAny_Name (wpAny_loadName_local I.ok.kind hk hn hm hq) hd
   ·rcases hk with hk|hk
    ·exact wpAny_Name (wpAny_loadName_cell I.ok.kind hk hc hcell hq) hd
    ·exact wpAny_Name (wpAny_loadName_free I.ok.kind hk hc hcell hq hcd) hd
  refine named _ ?_
  obtain ⟨fo,fd,g1,g2⟩:=T.fn s I.hok
  refine callWith_of (P:=fun h=>∃ fo fd,h.get? f=some fo/\fo.data=.func fd) rfl keeps_F (evalArgs_nil3 ⟨⟨fo,fd,g1,g2⟩,?_⟩)
  refine wpAny_call (codeAny_mono (T.run X.A X.stack s hr I.env0 kp) fun r s' hq=>?_)
  cases r with
  | error ev=>
    obtain ⟨ea,cls,dd,H',rfl,os,bare,un,hok,xo,q⟩:=hq
    obtain ⟨Ce,rfl,z⟩:=he _ _ _ q
    refine ⟨ea,Ce,dd,σ,H',rfl,I.call' os un hok bare (fun b z=>absurd z (by simp)),fun b o z=>un.there b o z (by simp),xo,z⟩
  | ok fl=>
    cases fl with
    |ret u=>exact I.after hq
    |next=>exact False.elim hq
    |brk=>exact False.elim hq
    |cont=>exact False.elim hq
 refine wpAny_execs_cons (thn one fun fl s1 z=>?_)
 obtain ⟨rfl,v,H',I1,q⟩:=z
 exact wpAny_execs_nil ⟨_,_,I1,hv _ _ q⟩
end
structure XGet (K:Frag) (C:Addr) (f:Str):Prop where
 ga:findIn K (.ref C) "__getattribute__" = some (some (.builtin "BaseException.__getattribute__"))
 gh:findIn K (.ref C) "__getattr__" = some none
 hd:hasDictIn K C=true
 na:findIn K (.ref C) f=some none
 be:mroIn K C (.type "BaseException")=some true
section
variable {prog:Program} {w:World} {A:Around} {E:Value->Shared->Prop} {s:Shared} {K:Frag} {x C:Addr} {ox:Obj} {od:Option Obj} {name:Str} {expr:Bool} {Q:Value->Shared->Prop}
theorem getX {v:Value} (X:K.In s.heap) (I:InstAt s.heap x ox C od) (G:XGet K C name) (hf:findObj K C od name=some (.value v)) (hh:handedIn v=true) (h:Q v { s with toks:=s.toks+1 }):wpAny (model prog w) A (getAttr (.ref x) name expr) Q E s:=by
 obtain ⟨hp,g,d,t,os⟩:=s
 have L0:=I.type (M:=model prog w)
 have L1:=looks_findIn (M:=model prog w) X G.ga
 have L2:=looks_findIn (M:=model prog w) X G.gh
 have L3:=looks_find (M:=model prog w) X I hf
 have LB:Looks (model prog w) hp (isInstance (.ref x) (.type "BaseException")) true:=L0.andThen (looks_mroIn X G.be)
 have f3:=F.excAttr_ValueError.ga.bind (.ref x)
 have hx0:(expr && onTheHeap (Value.builtin "BaseException.__getattribute__"))=false:=by cases expr <;> rfl
 have hx2:(Value.builtin "BaseException.__getattribute__" == Value.builtin "object.__getattribute__")=false:=by decide +kernel
 have hx1:(onTheHeap (Value.ref C) && Value.builtin "BaseException.__getattribute__" == Value.builtin "object.__getattribute__")=false:=by rw [hx2];rfl
 unfold getAttr getAttrBy
 refine wpAny_bind (wpAny_mkText (wpAny_holding (wpAny_bind (L0.at (wpAny_bind (L1.at ?_))))))
 dsimp only
 rw [if_neg (by rw [hx1];decide)]
 unfold getAttrByItsOwn hookBefore
 rw [if_pos (show onTheHeap (Value.ref C)=true from rfl)]
 refine wpAny_bind (L2.at ?_)
 have key:∀ R:Result->Shared->Prop,R (.ok (.ret v)) ⟨hp,g,d,t+1,os⟩->codeAny (model prog w) A (.call (.builtin "BaseException.__getattribute__") ⟨[.ref x,.str name t],[]⟩) R ⟨hp,g,d,t+1,os⟩:=fun R hR=>by
  refine codeAny_call_builtin F.excAttr_ValueError.ga.plain F.entry_bexc_ga (check_slot (i:="BaseException.__getattribute__") (owner:="BaseException") (n:="__getattribute__") (by decide +kernel) (by decide +kernel) LB (F.args_bexc_ga _ _) ?_)
  refine wpAny_bind (wpAny_pure (wpAny_bind (wpAny_pure (wpAny_bind (L0.at (wpAny_bind (L3.at ?_)))))))
  exact wpAny_pure hR
 have done:wpAny (model prog w) A (handedOut v) Q E ⟨hp,g,d,t+1,os⟩:=by rw [handedOut_of hh];exact wpAny_pure h
 clear L0 L1 L2 L3 LB hf I G X
 repeat (any_goals (first|assumption|wp_step))
 exact key _ done
end
def tXat (K:Frag) (ea C:Addr) (dd:Option Addr) (ta:TE) (f:Str):TE:=fun σ H Q=>ta σ H fun x H1=>∃ da fs v,x=.ref ea/\dd=some da/\H1 da=some (exD da fs)/\XGet K C f/\fs.lookup f=some v/\Q v H1
section
variable {X:Cx} {e:Expr} {f:Str} {pos:Pos} {ta:TE} {ea C:Addr} {oe:Obj} {dd:Option Addr}
theorem pe_xat (hm:(ea,oe)∈X.pn) (hc:oe.cls=.ref C) (hdct:oe.dict=dd) (hd:∃ vs,oe.data=.fields vs) (he:PE X e ta) (hb:attributeBase e f X.env (eval e X.env)=eval e X.env:=by rfl):PE X (.Attribute e f pos) (tXat X.K ea C dd ta f):=by
 intro pins s σ H Q I h
 refine attr_of hb (thn (he pins s σ H _ I h) fun u s1 ⟨x,H1,I1,rx,da,fs,v,ex,ed,hH,G,l,q⟩=>?_)
 subst ex
 subst ed
 obtain rfl:u=Value.ref ea:=rx
 have p:=(I1.pin (ea,oe) (List.mem_append_left _ hm)).1
 obtain ⟨⟨mA,hn,r,wi⟩,_,_⟩:=I1.hok da _ hH
 obtain ⟨u,hu,ru⟩:=RelO.some_of (v:=v) (o:=mA f) (by rw [← l];exact r f)
 obtain ⟨od,ho,hl⟩:=lookIn_ns hn
 obtain ⟨vs,hvs⟩:=hd
 have J:PySem.W.InstAt s1.heap ea oe C (some od):=⟨p,hc,by unfold notCls;rw [hvs],by rw [hdct];exact ho⟩
 exact getX I1.kIn J G (findObj_own G.hd G.na rfl (by rw [hl,hu])) (handed_of ru) ⟨v,H1,I1.tok _,ru,q⟩
end
end L2
namespace L2
open PySem PySem.Spec PyProof.Rows
structure FnOkS (P:Program) (w:World) (K:PySem.W.Frag) (mg:Str->Option Value) (base:Heap) (CX:CXT) (k:Nat) (f:Addr) (fd:FuncData) (ps:List Str) (sp:Shared->List Env->Sp):Prop where
 len:∀ s outer vs H Q E,sp s outer vs H Q E->vs.length=ps.length
 run:∀ (A:Around) (outer:List Env) (s:Shared) (H:Hp) (args:Args) (us:List Value) (vs:List V) (Q:VK) (E:XK),Room k A->Env0 P w K mg base A outer s H->BindsTo s fd args (ps.zip us)->Vals vs us->sp s outer vs H Q E->
  codeAny (model P w) A (.call (.ref f) args) (CR CX outer P w H s Q E) s
theorem fnS_of {CX:CXT} {P:Program} {w:World} {K:PySem.W.Frag} {mg:Str->Option Value} {base:Heap} {k:Nat} {f:Addr} {name qual:Str} {params:Arguments} {body:List Stmt} {scope:Scope} {dV kV doc pm cdv ct oc:Value} {an od:Option Addr}
 {osl:Array (Option Value)} {N ps:List Str} {sp:Shared->List Env->Sp} (lk:K.lookup f=some ⟨oc,od,.func (PySem.W.fnOf name qual params body scope dV kV doc pm an cdv ct),osl⟩) (hcd:PySem.W.codeIn K cdv qual=true) (S:FnScope N ps scope)
 (len:∀ s outer vs H Q E,sp s outer vs H Q E->vs.length=ps.length)
 (hbody:∀ (A:Around) (outer:List Env) (s:Shared) (H:Hp) (vs:List V) (Q:VK) (E:XK),Room k (A.deeper (envOfC qual scope s.heap.objs.size f cdv))->sp s outer vs H Q E->
  ∃ t,PSs (cxOf CX P w K mg base N qual scope f cdv A outer s H E) body t/\t { nx:=fun _ H'=>Q .non H',rt:=Q } (start N vs) H) :
 FnOkS P w K mg base CX (k+1) f (PySem.W.fnOf name qual params body scope dV kV doc pm an cdv ct) ps sp:=by
 refine ⟨len,fun A outer s H args us vs Q E hr e0 hb r hsp=>?_⟩
 have hl:=len _ _ _ _ _ _ hsp
 have KX:K.In s.heap:=e0.mod.kin.keeps fun b o e=>(e0.bs b o e).1
 have lim:s.heap.NoLimit:=e0.mod.nolimit.keeps fun b o e=>(e0.bs b o e).1
 have hkind:∀ y∈ps.zip us,scope.names.lookup y.1=some .local∨(scope.names.lookup y.1=some .cell/\((cellsFrom (s.heap.objs.size+1) scope.names []).lookup y.1).isSome=true):=fun ⟨n,v⟩ hy=>by
  rcases S.par n (List.of_mem_zip hy).1 with q|q
  ·exact .inl q
  ·exact .inr ⟨q,PySem.W.cellsFrom_some _ _ _ (.inl q)⟩
 refine codeAny_call_function hr.depth (KX _ _ lk) rfl S.co S.gen rfl (PySem.W.codeRec_of KX hcd) (hb _ _ _ _ ?_)
 refine wpAny_newFunctionEnv_cells S.kind hkind fun env he s1 x=>?_
 subst he
 refine ⟨lim.keeps x.toInCall.keep,codeAny_func ?_⟩
 obtain ⟨t,ht,hq⟩:=hbody A outer s H vs Q E (hr.deeper _) hsp
 have I:Inv (cxOf CX P w K mg base N qual scope f cdv A outer s H E) [] (start N vs) H s1:=inv_start S hr.hd e0 hl r x
 refine wpAny_mono (ht [] s1 (start N vs) H _ I hq) (fun fl s' hs=>?_) fun e s' hs=>hs
 have fin:∀ {σ':St} {H':Hp} {v:V} {u:Value},Inv (cxOf CX P w K mg base N qual scope f cdv A outer s H E) [] σ' H' s'->RelV v u->Q v H'->CE outer P w H s Q u s':=
  fun {σ' H' v u} J rv q=>⟨v,H',J.os,J.bare,J.base,J.hok,rv,q⟩
 cases fl with
 | ret u=>
   obtain ⟨v,σ',H',J,rv,q⟩:=hs
   exact fin J rv q
 | next=>
   obtain ⟨σ',H',J,q⟩:=hs
   exact fin (v:=V.non) (u:=Value.none) J rfl q
 | brk=>
   obtain ⟨_,_,_,q⟩:=hs
   exact False.elim q
 | cont=>
   obtain ⟨_,_,_,q⟩:=hs
   exact False.elim q
section
variable {P:Program} {w:World} {K:PySem.W.Frag} {mg:Str->Option Value} {base:Heap}
theorem Fun.okS {CX:CXT} {x qual:Str} {st:Stmt} {f:Addr} {fd:FuncData} {N ps:List Str} {k:Nat} {sp:Shared->List Env->Sp} (F:Fun K x qual st f fd) (S:FnScope N ps (defScope st)) (len:∀ s outer vs H Q E,sp s outer vs H Q E->vs.length=ps.length)
 (hbody:∀ (cdv:Value) (A:Around) (outer:List Env) (s:Shared) (H:Hp) (vs:List V) (Q:VK) (E:XK),Room k (A.deeper (envOfC qual (defScope st) s.heap.objs.size f cdv))->sp s outer vs H Q E->
  ∃ t,PSs (cxOf CX P w K mg base N qual (defScope st) f cdv A outer s H E) (defBody st) t/\t { nx:=fun _ H'=>Q .non H',rt:=Q } (start N vs) H):FnOkS P w K mg base CX (k+1) f fd ps sp:=by
 obtain ⟨oc,od,kV,doc,pm,an,cdv,ct,osl,rfl,lk,hcd⟩:=F.ex
 exact fnS_of lk hcd S len fun A outer s H vs Q E hr hsp=>hbody cdv A outer s H vs Q E hr hsp
theorem Fun.ok1 {CX:CXT} {x qual:Str} {st:Stmt} {f:Addr} {fd:FuncData} {N ps:List Str} {k:Nat} {sp:Sp} (F:Fun K x qual st f fd) (S:FnScope N ps (defScope st)) (len:∀ vs H Q E,sp vs H Q E->vs.length=ps.length)
 (hbody:∀ (cdv:Value) (A:Around) (outer:List Env) (s:Shared) (H:Hp) (vs:List V) (Q:VK) (E:XK),Room k (A.deeper (envOfC qual (defScope st) s.heap.objs.size f cdv))->sp vs H Q E->
  ∃ t,PSs (cxOf CX P w K mg base N qual (defScope st) f cdv A outer s H E) (defBody st) t/\t { nx:=fun _ H'=>Q .non H',rt:=Q } (start N vs) H):FnOk P w K mg base CX (k+1) f fd ps sp:=by
 obtain ⟨oc,od,kV,doc,pm,an,cdv,ct,osl,rfl,lk,hcd⟩:=F.ex
 exact fn_of lk hcd S len fun A outer s H vs Q E hr hsp=>hbody cdv A outer s H vs Q E hr hsp
end
section
variable {X:Cx} {e:Expr} {f:Str} {pos:Pos} {ta:TE} {ea C:Addr} {oe:Obj} {ps:List (Addr×Obj)} {dd:Option Addr}
theorem pe_xatH (hm:(ea,oe)∈ps) (hc:oe.cls=.ref C) (hdct:oe.dict=dd) (hd:∃ vs,oe.data=.fields vs) (he:PE (hCx X ea ps) e ta) (hb:attributeBase e f X.env (eval e X.env)=eval e X.env:=by rfl):PE (hCx X ea ps) (.Attribute e f pos) (tXat X.K ea C dd ta f):=
 pe_xat (X:=hCx X ea ps) (List.mem_append_right _ hm) hc hdct hd he hb
end
end L2
namespace L2
open PySem PySem.Spec PyProof.Rows PySem.W
def codeO (c:Addr) (qual:Str):HO:=.ext fun h=>h.CodeRec (.ref c) qual
theorem codeO_ok {P:Program} {w:World} {H:Hp} {h:Heap} {c:Addr} {qual:Str} (x:h.CodeRec (.ref c) qual):ObjOk P w H h c (codeO c qual):=by
 obtain ⟨c',o,vs,t,e,g,r⟩:=id x
 cases e
 refine ⟨x,⟨o,g⟩,fun h1 h2 z k=>?_⟩
 obtain ⟨c',o',vs',t',e',g',r'⟩:=z
 cases e'
 exact ⟨c,o',vs',t',rfl,k _ g',r'⟩
def lamO (f:Addr) (o:Obj):HO:=.ext fun h=>h.get? f=some o
theorem lamO_ok {P:Program} {w:World} {H:Hp} {h:Heap} {f:Addr} {o:Obj} (x:h.get? f=some o):ObjOk P w H h f (lamO f o):=⟨x,⟨o,x⟩,fun h1 h2 z k=>k _ z⟩
def cxLam (P:Program) (w:World) (K:Frag) (mg:Str->Option Value) (base:Heap) (N:List Str) (qual:Str) (scope:Scope) (f:Addr) (cd:Value) (cl:List (Str×Addr)) (A:Around) (outer:List Env) (s:Shared) (H:Hp) (E:XK):Cx where
 prog:=P
 w:=w
 K:=K
 mg:=mg
 base:=base
 A:=A.deeper (envX qual scope s.heap.objs.size f cd cl)
 N:=N
 s₀:=s
 H₀:=H
 env:=envX qual scope s.heap.objs.size f cd cl
 outer:=outer
 stack:=envX qual scope s.heap.objs.size f cd cl::outer
 ex:=[]
 calm:=true
 fn:=fun _=>false
 pn:=[]
 xe:=fun e s'=>wpAny (model P w) (A.deeper (envX qual scope s.heap.objs.size f cd cl)) (leaving (envX qual scope s.heap.objs.size f cd cl) e) (fun _ s''=>CX1 P w outer H s E e s'') (fun e' s''=>CX1 P w outer H s E e' s'') s'
section
variable {P:Program} {w:World} {K:Frag} {mg:Str->Option Value} {base:Heap} {N:List Str} {qual:Str} {scope:Scope} {f:Addr} {cd:Value} {cl:List (Str×Addr)} {A:Around} {outer:List Env} {s:Shared} {H:Hp} {E:XK}
theorem xeL {pins:List (Addr×Obj)} {σ:St} {H':Hp} {s':Shared} {e:Addr} {cls:Value} {dd:Option Addr} (I:Inv (cxLam P w K mg base N qual scope f cd cl A outer s H E) pins σ H' s') (x:ExcOk s'.heap H' s.heap e cls dd) (h:E cls dd H') :
 (cxLam P w K mg base N qual scope f cd cl A outer s H E).xe (.ref e) s':=
 leaveX I rfl rfl I.ok.frames rfl x fun h' x' u k=>⟨e,cls,dd,H',rfl,I.os,I.bare,u,k,x',h⟩
theorem passL {E':XK} (hE:∀ cls dd H',E' cls dd H'->E cls dd H'):Passes (CX1 P w) (cxLam P w K mg base N qual scope f cd cl A outer s H E) E':=by
 intro pins σ H1 s1 e s' I h
 obtain ⟨ea,cls,dd,H',rfl,os,bare,un,hok,x,q⟩:=h
 have I':Inv (cxLam P w K mg base N qual scope f cd cl A outer s H E) pins σ H' s':=I.call' (ch:=[]) os un hok bare (fun b z=>absurd z (by simp))
 refine xeL I' (x.mono fun b hb=>?_) (hE _ _ _ q)
 cases z:s.heap.get? b with
 |none=>rfl
 | some o=>
   obtain ⟨o',q'⟩:=I.base.there b o z (by intro hz;cases hz)
   rw [hb] at q';cases q'
structure Clos (scope:Scope) (cl:List (Str×Addr)) (N:List Str) (g:Heap) (H:Hp) (fr:List Addr) (σ:St):Prop where
 inj:∀ x y c,cl.lookup x=some c->cl.lookup y=some c->x=y
 has:∀ x,(scope.names.lookup x=some .cell∨scope.names.lookup x=some .free)->∃ c,cl.lookup x=some c
 cell:∀ x c,cl.lookup x=some c->(∃ v,g.IsCell c v)/\H c=none/\c∉fr
 val:∀ (i:Nat) x v,N[i]?=some x->σ[i]?=some (some v)->scope.names.lookup x=some .free/\∃ c u,cl.lookup x=some c/\RelV v u/\g.IsCell c (some u)
 len:σ.length=N.length
theorem thunk_lam {g:Heap} {fr:List Addr} {σ:St} {k:Nat} {name:Str} {params:Arguments} {body:Expr} {pm ctv:Value} {c':Addr} {Qv:VK} {t:TE} (ho:H f=some (lamO f (kla_obj name qual params body scope cl pm c' ctv)))
 (hc:H c'=some (codeO c' qual)) (C:Clos scope cl N g H fr σ) (hbind:bindArgs (kla_fn name qual params body scope cl pm (.ref c') ctv) ⟨[],[]⟩=pure [])
 (hco:scope.isCoroutine=false) (hgen:scope.isGenerator=false) (hk:scope.kind=.function) (hcell:∀ x∈scope.names,x.2≠.cell)
 (hb:∀ (A:Around) (outer:List Env) (s:Shared),Room k (A.deeper (envX qual scope s.heap.objs.size f (.ref c') cl))->PE (cxLam P w K mg base N qual scope f (.ref c') cl A outer s H E) body t) (hq:t σ H Qv):Thunk P w K mg base g H fr (k+1) f H Qv E:=by
 refine ⟨fun s hok=>⟨_,_,(hok f _ ho).1,rfl⟩,fun A outer s hr e0 kp=>?_⟩
 have lim:s.heap.NoLimit:=e0.mod.nolimit.keeps fun b o e=>(e0.bs b o e).1
 refine kla_callFunE hr.depth (e0.hok f _ ho).1 rfl hco hgen rfl (e0.hok c' _ hc).1 ?_
 rw [hbind]
 refine wpAny_pure (wpAny_newFunctionEnv hcell (fun y hy=>absurd hy (by simp)) (fun h₁ hns hsb=>⟨lim.fresh _ hsb,?_⟩) hk)
 show codeAny _ _ (.expr body (envX qual scope s.heap.objs.size f (.ref c') cl)) _ _
 have hk₁:∀ b o,s.heap.get? b=some o->h₁.get? b=some o:=fun b o e=>hsb.extBut b o (Nat.ne_of_lt (Heap.lt_size e)) (Heap.get?_push_of_some _ e)
 have isC:∀ x c v,cl.lookup x=some c->g.IsCell c v->h₁.IsCell c v:=fun x c v e z=>by
  obtain ⟨_,h2,h3⟩:=C.cell x c e
  obtain ⟨o,ho,hd⟩:=z
  exact ⟨o,hk₁ _ _ (kp _ _ ho h2 h3),hd⟩
 have noA:∀ b:Addr,b∉([]:List Addr):=fun b z=>absurd z (by simp)
 have I:Inv (cxLam P w K mg base N qual scope f (.ref c') cl A outer s H E) [] σ H { s with heap:=h₁,toks:=s.toks+0 }:=by
  refine ⟨⟨e0.mod,hk,rfl,rfl,Nat.le_refl _,C.inj,fun y hy=>C.has y hy,fun y c z=>absurd z (by simp [cxLam]),fun _=>hr.hd,Around.frames_deeper e0.frames,.inr ⟨rfl,rfl⟩,fun b z=>absurd z (noA b),e0.bs,e0.bsz,fun b _ _=>noA b,fun b z=>absurd z (noA b),e0.funs,e0.frf⟩,
   rfl,e0.bare,Un.kept hk₁,⟨_,hns,fun i y v h1 h2 h3=>?_⟩,fun y c h=>?_,e0.hok.fresh (Nat.le_refl _),fun y c h=>(C.cell y c h).2.1,fun p hp=>absurd (show p∈([]:List (Addr×Obj)) from hp) (by simp),e0.hok.kept hk₁,C.len⟩
  ·obtain ⟨fr',c,u,e,r,z⟩:=C.val i y v h1 h2
   exact ⟨u,r,.inr ⟨.inr fr',c,e,isC y c _ e z⟩⟩
  ·obtain ⟨⟨v,z⟩,_⟩:=C.cell y c h
   exact ⟨v,isC y c v h z⟩
 exact kla_codeExpr (wpAny_mono (hb A outer s (hr.deeper _) [] _ σ H Qv I hq) (fun u s' ⟨v,H',J,rv,q⟩=>⟨v,H',J.os,J.bare,J.base,J.hok,rv,q⟩) fun _ _ y=>y)
end
section
variable {X:Cx} {pins:List (Addr×Obj)} {σ:St} {H:Hp} {s:Shared} {h':Heap} {P c':Addr} {ps more:Array Value} {qual:Str}
theorem Inv.grow {t':Nat} (I:Inv X pins σ H s) (hP:H P=some (.tbl ps)) (hx:Heap.ExtBut P s.heap h') (hc:s.heap.objs.size≤c') (hcr:h'.CodeRec (.ref c') qual) (hp:h'.get? P=some { cls:=.none,data:=.fields (ps++more) }) :
 Inv X pins σ (upd (upd H P (.tbl (ps++more))) c' (codeO c' qual)) { s with heap:=h',toks:=t' }:=by
 have hPl:P<s.heap.objs.size:=I.hok.lt hP
 have hcP:c'≠P:=fun q=>by subst q;exact absurd (Nat.lt_of_lt_of_le hPl hc) (Nat.lt_irrefl _)
 have lt:∀ b o,s.heap.get? b=some o->b≠c':=fun b o e q=>by subst q;exact absurd (Nat.lt_of_lt_of_le (Heap.lt_size e) hc) (Nat.lt_irrefl _)
 have neP:∀ b,H b=none->b≠P:=fun b e q=>by subst q;rw [hP] at e;cases e
 have kp:∀ b o,s.heap.get? b=some o->H b=none->h'.get? b=some o:=fun b o e n=>hx b o (neP b n) e
 have up:∀ b u,H b=some u->(∀ qs,u≠.tbl qs)->upd (upd H P (.tbl (ps++more))) c' (codeO c' qual) b=some u:=fun b u e ne=>by
  have h1:b≠c':=fun q=>by subst q;exact absurd (Nat.lt_of_lt_of_le (I.hok.lt e) hc) (Nat.lt_irrefl _)
  have h2:b≠P:=fun q=>by subst q;rw [hP] at e;exact ne _ (Option.some.inj e).symm
  rw [upd_ne h1,upd_ne h2];exact e
 refine I.stepN (ch:=[]) (g':=s.gens) (d':=s.drawn) (t':=t') (fun b hb=>absurd hb (by simp)) (fun b o _ _ _ e n=>kp b o e n) (fun b o _ _ _ e n=>⟨o.slots,kp b o e n⟩) (fun b o _ e n=>?_) (fun b o _ e=>?_) (fun b xs e=>up b _ e (by intro _ q;cases q)) (fun b o u e=>up b _ e (by intro _ q;cases q)) (fun b qs e=>?_) (fun m hm=>?_) (fun b u e=>?_) I.bare
 ·rw [upd_ne (lt b o e),upd_ne (neP b n)];exact n
 ·by_cases q:b=P
  ·subst q;exact ⟨_,hp⟩
  ·exact ⟨o,hx b o q e⟩
 ·have h1:b≠c':=fun q=>by subst q;exact absurd (Nat.lt_of_lt_of_le (I.hok.lt e) hc) (Nat.lt_irrefl _)
  by_cases q:b=P
  ·subst q
   rw [hP] at e
   cases e
   exact ⟨more,by rw [upd_ne h1,upd_same]⟩
  ·exact ⟨#[],by rw [upd_ne h1,upd_ne q,e];simp⟩
 ·obtain ⟨o,es,ep,e,r⟩:=hm
  exact ⟨o,es,ep,kp _ _ e I.free,r⟩
 ·by_cases h1:b=c'
  ·subst h1
   rw [upd_same] at e
   cases e
   exact codeO_ok hcr
  ·rw [upd_ne h1] at e
   by_cases h2:b=P
   ·subst h2
    rw [upd_same] at e
    cases e
    exact hp
   ·rw [upd_ne h2] at e
    refine (I.hok b u e).stay (fun c v hc' q=>hx c v ?_ q) (fun c q=>up c _ q (by intro _ z;cases z)) fun c xs q=>up c _ q (by intro _ z;cases z)
    rintro rfl
    rcases hc' with rfl|z
    ·exact h2 rfl
    ·rw [hP] at z;cases z
structure CodeTab (X:Cx) (c P:Addr):Prop where
 code:X.env.code=.ref c
 hd:CodeHd X.base c P
 bl:X.base.BuiltinsAt X.mg P
 gP:mainGlobals≠P
def Lam (H:Hp) (P:Addr) (lp:Pos) (qual:Str) (c':Addr) (H1:Hp):Prop:=
 ∃ ps,H P=some (.tbl ps)/\((codeAmong lp ps.toList=none/\H c'=none/\c'≠P/\H1=upd (upd H P (.tbl (ps++#[rawInt lp.line,rawInt lp.col,.ref c']))) c' (codeO c' qual))∨(codeAmong lp ps.toList=some (.ref c')/\H c'=some (codeO c' qual)/\H1=H))
def TabOk (H:Hp) (P:Addr) (lp:Pos) (qual:Str):Prop:=∃ ps,H P=some (.tbl ps)/\TriplesOk ps.toList/\(codeAmong lp ps.toList=none∨∃ c',codeAmong lp ps.toList=some (.ref c')/\H c'=some (codeO c' qual))
def tLam (X:Cx) (P:Addr) (params:Arguments) (body:Expr) (scope:Scope) (lp:Pos) (cl:List (Str×Addr)):TE:=fun _ H Q=>TabOk H P lp (X.env.qual++"<lambda>")/\∀ c' H1,Lam H P lp (X.env.qual++"<lambda>") c' H1->∀ f ctv,H1 f=none->Q (.ref f) (upd H1 f (lamO f (kla_obj "<lambda>" (X.env.qual++"<lambda>") params body scope cl ((X.mg "__name__").getD .none) c' ctv)))
theorem pe_lam {c:Addr} {params:Arguments} {body:Expr} {scope:Scope} {lp:Pos} {cl:List (Str×Addr)} (T:CodeTab X c P) (hdef:defaultsOf params X.env=([],[])) (hcl:closureFor scope X.env=pure cl):PE X (.Lambda params body scope lp) (tLam X P params body scope lp cl):=by
 intro pins s σ H Q I h
 obtain ⟨⟨ps,hP,ht,hor⟩,h⟩:=h
 refine kla_eval hdef ?_
 have hPo:s.heap.get? P=some (tabObj ps):=I.hok P _ hP
 have hg:s.heap.Ns mainGlobals X.mg:=by
  obtain ⟨o,es,ep,e,r⟩:=I.ok.mod.glob
  exact ⟨o,es,ep,I.bk _ _ e,r⟩
 have hb:s.heap.BuiltinsAt X.mg P:=by
  obtain ⟨bm,o,b1,b2,b3,b4,b5,b6⟩:=T.bl
  exact ⟨bm,o,b1,b2,b3,b4,I.bk _ _ b5,b6⟩
 rcases hor with hn|⟨c',hf,hc'⟩
 ·refine kla_makeFunction (mg:=X.mg) hcl I.ok.glob hg T.code (T.hd.keeps I.bk) hPo ht hn T.gP hb fun c' ctv h' tk hx hge hlt hrec htb=>?_
  have I1:=I.grow (t':=tk) hP hx hge hrec htb
  have hPl:P<s.heap.objs.size:=I.hok.lt hP
  have fr:upd (upd H P (.tbl (ps++#[rawInt lp.line,rawInt lp.col,.ref c']))) c' (codeO c' (X.env.qual++"<lambda>")) h'.objs.size=none:=I1.hok.fresh (Nat.le_refl _)
  refine ⟨.ref h'.objs.size,_,I1.laid (a:=h'.objs.size) (t':=tk) (fun b u e=>Heap.get?_push_of_some _ e) (Nat.le_refl _) (lamO_ok (Heap.get?_push_size _ rfl)),rfl,h c' _ ⟨ps,hP,.inl ⟨hn,I.hok.fresh hge,fun q=>?_,rfl⟩⟩ _ ctv fr⟩
  subst q
  exact absurd (Nat.lt_of_lt_of_le hPl hge) (Nat.lt_irrefl _)
 ·refine kla_makeFunctionHit (mg:=X.mg) hcl I.ok.glob hg T.code (T.hd.keeps I.bk) hPo ht hf hb fun ctv h' tk hk hsz=>?_
  have fr:H h'.objs.size=none:=I.hok.fresh hsz
  exact ⟨.ref h'.objs.size,_,I.laid (a:=h'.objs.size) (h':=h'.push _) (t':=tk) (fun b u e=>Heap.get?_push_of_some _ (hk b u e)) hsz (lamO_ok (Heap.get?_push_size _ rfl)),rfl,h c' _ ⟨ps,hP,.inr ⟨hf,hc',rfl⟩⟩ _ ctv fr⟩
end
section
variable {X:Cx} {CX:CXT} {k:Nat} {f C:Addr} {fd:FuncData} {ps:List Str} {sp:Shared->List Env->Sp} {E:XK} {x:Str} {p pos:Pos} {e:Expr} {es:List Expr} {t:TA}
theorem run_fnS {pins:List (Addr×Obj)} {σ:St} {H:Hp} {s:Shared} {Q:VK} {us:List Value} {vs:List V} (F:FnOkS X.prog X.w X.K X.mg X.base CX k f fd ps sp) (hr:Room k X.A) (hb:Binds X.K fd ps []) (hx:Passes CX X E)
 (I:Inv X pins σ H s) (r:Vals vs us) (h:sp s X.stack vs H Q E):wpAny (model X.prog X.w) X.A (call (.ref f) us) (EP X pins σ Q) X.xe s:=by
 have hl:us.length=ps.length:=by rw [← r.length];exact F.len _ _ _ _ _ _ h
 have hb':=hb s us I.kIn (by rw [List.append_nil];exact hl)
 rw [List.append_nil] at hb'
 refine wpAny_call (codeAny_mono (F.run X.A X.stack s H ⟨us,[]⟩ us vs Q E hr I.env0 hb' r h) fun r s' hq=>?_)
 cases r with
 |error e=>exact hx pins σ H s e s' I hq
 | ok fl=>
   cases fl with
   |ret u=>exact I.after hq
   |next=>exact False.elim hq
   |brk=>exact False.elim hq
   |cont=>exact False.elim hq
theorem pe_callS {r:St->List V->Hp->VK->Prop} (F:FnOkS X.prog X.w X.K X.mg X.base CX k f fd ps sp) (hr:Room k X.A) (hg:Gl X x) (hm:X.mg x=some (.ref f)) (hk:PySem.W.keepIn X.K (.ref f)=true) (hb:Binds X.K fd ps []) (hx:Passes CX X E)
 (hsp:∀ pins σ H s vs Q,Inv X pins σ H s->r σ vs H Q->sp s X.stack vs H Q E) (ha:PA X (e::es) t) (hdb:(x == ("__debug__" : Str))=false:=by decide) (he:starEach (e::es) X.env=(false,eval e X.env)::starEach es X.env:=by rfl) (hpl:(backTo pos (starEach es X.env)).any (·.1)=false:=by rfl) :
 PE X (.Call (.Name x p) (e::es) [] pos) (fun σ H Q=>t σ H fun vs H1=>r σ vs H1 Q):=by
 intro pins s σ H Q I h
 refine wpAny_Call_Name_kw (ld_glob I hg hm ?_ hdb)
 refine PySem.W.callWith_K (h₀:=X.base) I.ok.mod.kin hk (thn (ha pos pins s σ H _ I h) fun us s1 ⟨vs,H1,I1,r,q⟩=>⟨I1.kIn,?_⟩) he hpl
 exact run_fnS F hr hb hx I1 r (hsp _ _ _ _ _ _ I1 q)
theorem lookup_of_mem_keys {cl:List (Str×Addr)} {x:Str} (h:x∈cl.map (·.1)):∃ c,cl.lookup x=some c:=by
 induction cl with
 |nil=>simp at h
 | cons q r ih=>
   obtain ⟨y,c⟩:=q
   rw [List.lookup_cons]
   by_cases e:(x == y)=true
   ·exact ⟨c,by rw [e]⟩
   ·have e':(x == y)=false:=by simpa using e
    rw [e']
    refine ih ?_
    rcases List.mem_cons.mp h with z|z
    ·exact absurd (beq_iff_eq.mpr z) e
    ·exact z
def freeV (js:List Nat) (σ:St):St:=js.map fun j=>(σ[j]?).join
theorem clos_of {pins:List (Addr×Obj)} {σ:St} {H:Hp} {s:Shared} {scope:Scope} {cl:List (Str×Addr)} {NL:List Str} {js:List Nat} (I:Inv X pins σ H s) (hcl:∀ p∈cl,X.env.cells.lookup p.1=some p.2) (hfn:∀ x,X.fn x=true)
 (hhas:∀ p∈scope.names,(p.2=.cell∨p.2=.free)->p.1∈cl.map (·.1)) (hfree:∀ x∈NL,scope.names.lookup x=some .free) (hown:∀ x∈NL,X.env.scope.names.lookup x=some .cell) (hN:NL.map some=js.map fun j=>X.N[j]?) (hst:X.stack=X.env::X.outer) (hfm:X.env.frame=some X.env.locals) :
 Clos scope cl NL s.heap H (frs X.stack) (freeV js σ):=by
 have sub:∀ x c,cl.lookup x=some c->X.env.cells.lookup x=some c:=fun x c e=>hcl (x,c) (PySem.mem_of_lookup e)
 have hlen:js.length=NL.length:=by simpa using (congrArg List.length hN).symm
 refine ⟨fun x y c h1 h2=>I.ok.inj x y c (sub x c h1) (sub y c h2),fun x hx=>?_,fun x c e=>⟨I.cell x c (sub x c e),I.freeC x c (sub x c e),fun hm=>?_⟩,fun i x v h1 h2=>?_,by unfold freeV;rw [List.length_map];exact hlen⟩
 ·refine lookup_of_mem_keys ?_
  rcases hx with hx|hx
  ·exact hhas _ (PySem.mem_of_lookup hx) (.inl rfl)
  ·exact hhas _ (PySem.mem_of_lookup hx) (.inr rfl)
 ·rcases List.mem_cons.mp (I.stkSub c hm) with q|q
  ·exact I.cne x c (sub x c e) q
  ·obtain ⟨_,o,ho,_⟩:=I.ok.funs.mem q
   exact absurd (Nat.lt_of_lt_of_le (Heap.lt_size ho) (I.ok.cab x c (hfn x) (sub x c e))) (Nat.lt_irrefl _)
 ·have hx:x∈NL:=List.mem_of_getElem? h1
  have e1:(js.map fun j=>X.N[j]?)[i]?=some (some x):=by rw [← hN,List.getElem?_map,h1];rfl
  rw [List.getElem?_map] at e1
  obtain ⟨j,hj,e1⟩:=Option.map_eq_some_iff.mp e1
  unfold freeV at h2
  rw [List.getElem?_map,hj] at h2
  have h3:σ[j]?=some (some v):=by
   have h2:(σ[j]?).join=some v:=Option.some.inj h2
   cases e:σ[j]? with
   |none=>rw [e] at h2;cases h2
   | some a=>rw [e] at h2;cases a with
     |none=>cases h2
     |some b=>exact congrArg some h2
  obtain ⟨m,hn,hl⟩:=I.loc
  obtain ⟨u,r,lk⟩:=hl j x v e1 h3 (.inr (.inl (hown x hx)))
  refine ⟨hfree x hx,?_⟩
  rcases lk with ⟨kk,_⟩|⟨_,c,hc,z⟩
  ·have kk:X.env.scope.names.lookup x=some .local:=kk
   rw [hown x hx] at kk;cases kk
  ·obtain ⟨c2,e2⟩:=lookup_of_mem_keys (hhas _ (PySem.mem_of_lookup (hfree x hx)) (.inr rfl))
   have:=sub x c2 e2
   rw [hc] at this
   cases this
   exact ⟨c,u,e2,r,z⟩
end
end L2
namespace L2
open PySem PySem.Spec PyProof.Rows
end L2
namespace L2
open PySem PySem.Spec PyProof.Rows PySem.W
def tabIn (K:Frag) (c:Addr):Option Addr:=match K.lookup c with
 | some o=>(match o.data with
   | .fields vs=>(match (vs[11]?:Option Value),vs.getD 18 .none,vs.getD 7 .none,vs.getD 9 .none,vs.getD 10 .none with
     |some (Value.ref P),.str _ _,.int _ _,.bool _,.int _ _=>if (o.cls == .type "code" && c != P)=true then some P else none
     |_,_,_,_,_=>none)
   |_=>none)
 |none=>none
theorem hd_of {K:Frag} {h:Heap} {c P:Addr} (X:K.In h) (e:tabIn K c=some P):CodeHd h c P:=by
 unfold tabIn at e
 split at e
 ·rename_i o ho
  split at e
  ·rename_i vs hd
   split at e
   ·rename_i P' x18 t18 x7 t7 x9 x10 t10 h11 h18 h7 h9 h10
    split at e
    ·rename_i hc
     cases e
     simp only [Bool.and_eq_true,beq_iff_eq,bne_iff_ne] at hc
     refine ⟨o,vs,x18,t18,x7,t7,x9,x10,t10,X _ _ ho,hc.1,hd,h11,?_,h18,h7,h9,h10,hc.2⟩
     rw [Array.getD_eq_getD_getElem?,h11]
     rfl
    ·cases e
   ·cases e
  ·cases e
 ·cases e
end L2
namespace L2
open PySem PySem.Spec PyProof.Rows PySem.SeqAt
section
variable {X:Cx}
end
def Its (x:Str):It:=⟨fun i _=>i<x.cps.size,fun i H v H'=>H'=H/\∃ c,x.cps[i]?=some c/\v=.str ⟨#[c]⟩,fun i _=>x.cps.size≤i⟩
theorem turn_str {P:Program} {w:World} {K:PySem.W.Frag} {tg:Expr} (x:Str) (t:Tok) (it:Addr):Turn P w K tg (Its x) [it] it (fun i h=>h.IsStrIter it "str_ascii_iterator" x t i) where
 mem:=by simp
 obj:=fun i h st b hb=>by
  have e:b=it:=by simpa using hb
  subst e
  obtain ⟨o,e,c,d⟩:=st
  exact ⟨o,e,fun v z=>by rw [d] at z;cases z⟩
 keep:=fun i h h' st k=>let ⟨o,e,r⟩:=st;⟨o,k it (by simp) o e,r⟩
 item:=by
  intro X hP hw hK hc i pins s σ H E I hf st hg
  subst hP hw hK
  obtain ⟨f0,f1,f2,f3,f4,f5⟩:=hf it (by simp)
  have hg':i<x.cps.size:=hg
  have hx:x.cps[i]?=some (x.cps[i]'hg'):=Array.getElem?_eq_getElem hg'
  refine wpAny_pyNext_ascii_item st hx fun h' st' sb=>?_
  have I1:Inv X pins σ H { s with heap:=h',toks:=s.toks+1 }:=I.turned (t':=s.toks+1) (fun b o hb e=>(sb.2 b hb).trans e) f0 f1 f3 f4 f5
  obtain ⟨o,e,c,d⟩:=id st'
  exact ⟨_,rfl,go_of (s:={ s with heap:=h',toks:=s.toks+1 }) e c d (by decide) ⟨.str ⟨#[x.cps[i]'hg']⟩,H,I1,⟨_,rfl⟩,⟨rfl,_,hx,rfl⟩,st',fun b hb=>(hf b hb).1⟩⟩
 done:=by
  intro X hP hw hK hc i pins s σ H E I hf st hg
  subst hP hw hK
  obtain ⟨f0,f1,f2,f3,f4,f5⟩:=hf it (by simp)
  have hx:x.cps[i]?=none:=Array.getElem?_eq_none hg
  exact wpAny_pyNext_ascii_end (I.ok.hd hc) st hx fun h' eb=>⟨rfl,I.turned (t':=s.toks) (fun b o hb e=>eb b o hb e) f0 f1 f3 f4 f5⟩
 self:=fun _ _ _ _ _ st h=>wpAny_pyIter_striter_ascii st h
section
variable {X:Cx} {tg:Expr}
def iStr (tl:TE):TI:=fun σ H R=>tl σ H fun v H1=>∃ x,v=.str x/\x.cps.all (·<128)=true/\R (Its x) H1
theorem pi_str {l:Expr} {tl:TE} (hl:PE X l tl):PI X tg l (iStr tl):=by
 intro pins s σ H R I h
 refine thn (hl pins s σ H _ I h) fun v s1 ⟨y,H1,I1,r1,x,e,ha,q⟩=>?_
 subst e
 obtain ⟨t,rfl⟩:=r1
 refine wpAny_pyIter_ascii ha ?_
 refine ⟨s1.heap.objs.size,[s1.heap.objs.size],_,_,H1,rfl,I1.kept (t':=s1.toks) fun b o e=>Heap.get?_push_of_some _ e,turn_str x t _,⟨_,Heap.get?_push_size _ rfl,rfl,rfl⟩,fun b hb=>?_,q⟩
 have e:b=s1.heap.objs.size:=by simpa using hb
 subst e
 exact I1.fpOk (Nat.le_refl _) (I1.hok.fresh (Nat.le_refl _))
end
theorem comp_str {x:Str} {g:TG} {te:TE} {F:List V->Hp->Prop} {σ0:St} {H0:Hp} (Pv:Nat->List V->St->Hp->Prop) (hn:x.cps.size≤sizeLine) (h0:Pv 0 [] σ0 H0)
 (hs:∀ i c ys σ H,x.cps[i]?=some c->ys.length=i->Pv i ys σ H->∀ N:List V->St->Hp->Prop,(∀ ys' σ' H',ys'.length=i+1->Pv (i+1) ys' σ' H'->N ys' σ' H')->g (.str ⟨#[c]⟩) σ H fun σ2 H2=>te σ2 H2 fun y H3=>N (ys++[y]) σ2 H3)
 (hd:∀ ys σ H,ys.length=x.cps.size->Pv x.cps.size ys σ H->F ys H) :
 ∃ W:Nat->Nat->List V->St->Hp->Prop,(∃ m,W 0 m [] σ0 H0)/\CTurn (Its x) g tYes te F W:=by
 refine ⟨fun i m ys σ H=>m=x.cps.size-i/\i≤x.cps.size/\ys.length=i/\Pv i ys σ H,⟨x.cps.size,by simp,Nat.zero_le _,rfl,h0⟩,?_⟩
 rintro i m ys σ H ⟨rfl,hi,hl,p⟩
 by_cases hlt:i<x.cps.size
 ·refine .inr ⟨hlt,by omega,fun v H' y=>?_⟩
  obtain ⟨e,c,hc,y⟩:=y
  subst e y
  exact hs i c ys σ _ hc hl p (fun ys' σ' H'=>∃ m',m'<x.cps.size-i/\m'=x.cps.size-(i+1)/\i+1≤x.cps.size/\ys'.length=i+1/\Pv (i+1) ys' σ' H') fun ys' σ' H' hl' q=>⟨x.cps.size-(i+1),by omega,rfl,hlt,hl',q⟩
 ·have e:i=x.cps.size:=by omega
  subst e
  exact .inl ⟨Nat.le_refl _,hd ys σ H hl p⟩
section
variable {X:Cx}
def rSlS:V->Option Int->Option Int->Hp->VK->Prop:=fun x lo hi H Q=>∃ z j,x=.str z/\lo=none/\hi=some j/\z.length≤sizeLine/\Q (.str (Txt.slice z none (some j))) H
theorem sl_str:SlR X rSlS:=by
 intro pins s σ H x v vl vu lo hi sl Q I rx hs pl pu h
 obtain ⟨z,j,rfl,rfl,rfl,hz,q⟩:=h
 obtain ⟨t,rfl⟩:=rx
 cases pl
 cases pu
 rename_i uj
 refine ⟨"str",_,F.slot_str_getitem.lookup,typeIs_str _ _ _,wpAny_getItem_str_slice (l:=none) (u:=some (j,uj)) (st:=none) ?_ rfl (post_val_or_str ⟨Nat.le_trans (Txt.slice_le z none (some j)) hz,fun t' k=>⟨.str _,H,I.tok _,⟨_,rfl⟩,q⟩⟩)⟩
 exact hs
theorem slice_sub (z:Str) (l u:Option Int):∀ c∈(Txt.slice z l u).cps.toList,c∈z.cps.toList:=by
 intro c hc
 unfold Txt.slice at hc
 split at hc
 ·exact hc
 ·rw [List.toList_toArray] at hc
  obtain ⟨i,_,e⟩:=List.mem_filterMap.mp hc
  rw [← Array.getElem?_toList] at e
  exact List.mem_of_getElem? e
end
section
variable {prog:Program} {w:World} {A:Around} {E:Value->Shared->Prop} {s:Shared} {l:Addr} {x y:Value}
theorem unpackItems_two {Q:List Value->Shared->Prop} (hh:A.handled=none) (hl:s.heap.IsList l #[x,y]) (hQ:∀ h',Heap.ExtBut s.heap.objs.size s.heap h'->Q [x,y] { s with heap:=h' }):wpAny (model prog w) A (unpackItems (.ref l) 2 none) Q E s:=by
 have hlt:l≠s.heap.objs.size:=by obtain ⟨o,ho,_⟩:=hl;exact Nat.ne_of_lt (Heap.lt_size ho)
 have hp:(s.heap.push { cls:=.type "list_iterator",data:=.fields #[.ref l,.int 0 0] }).IsList l #[x,y]:=let ⟨o,e,r⟩:=hl;⟨o,Heap.get?_push_of_some _ e,r⟩
 have it0:(s.heap.push { cls:=.type "list_iterator",data:=.fields #[.ref l,.int 0 0] }).IsListIter s.heap.objs.size l 0:=⟨_,Heap.get?_push_size _ rfl,rfl,rfl⟩
 unfold unpackItems
 refine wpAny_bind ?_
 unfold notIterableAtAll
 refine wpAny_bind (wpAny_specialOf hl.typeIs slot_list_iter.lookup ?_)
 refine wpAny_pure ?_
 simp only [Bool.false_eq_true,if_false]
 refine wpAny_bind (wpAny_holding (wpAny_pyIter_list hl ?_))
 refine wpAny_bind (wpAny_holding ?_)
 show wpAny _ _ (pyNext (.ref s.heap.objs.size) >>= _) _ _ _
 refine wpAny_bind (wpAny_pyNext_list_item it0 hp (x:=x) rfl fun h1 i1 s1=>?_)
 have l1:h1.IsList l #[x,y]:=let ⟨o,e,r⟩:=hp;⟨o,(s1.2 l hlt).trans e,r⟩
 refine wpAny_bind (wpAny_holding ?_)
 show wpAny _ _ (pyNext (.ref s.heap.objs.size) >>= _) _ _ _
 refine wpAny_bind (wpAny_pyNext_list_item i1 l1 (x:=y) rfl fun h2 i2 s2=>?_)
 have l2:h2.IsList l #[x,y]:=let ⟨o,e,r⟩:=l1;⟨o,(s2.2 l hlt).trans e,r⟩
 refine wpAny_bind (wpAny_holding ?_)
 show wpAny _ _ (pure []) _ _ _
 refine wpAny_pure (wpAny_pure (wpAny_pure ?_))
 rw [if_neg (by simp)]
 refine wpAny_bind (wpAny_holding (wpAny_pyNext_list_end hh i2 l2 (by simp) fun h3 e3=>?_))
 simp only [Option.isSome_none,Bool.false_eq_true,if_false]
 exact wpAny_pure (hQ h3 fun b o hb e=>e3 b o hb ((s2.2 b hb).trans ((s1.2 b hb).trans (Heap.get?_push_of_some _ e))))
end
section
variable {X:Cx} {pos:Pos}
def gTwo (K:PySem.W.Frag) (t:TGs):TG:=fun v σ H Q=>∃ a x y,v=.ref a/\SqL K H a [x,y]/\t [x,y] σ H Q
theorem pg_two {es:List Expr} {k:Nat} {t:TGs} (hc:X.calm=true) (h:PGs X es t) (hn:(assignEach es X.env).length=2:=by rfl) (hst:(assignEach es X.env).findIdx? (·.1)=none:=by rfl):PG X (.Tuple es k pos) (gTwo X.K t):=by
 intro pins s σ H v u Q I r hw
 obtain ⟨a,x,y,e1,hq,hw⟩:=hw
 subst e1
 cases r
 obtain ⟨its,rv,hl,hz⟩:=I.list hq
 cases rv with
 | cons rx rv=>
   cases rv with
   | cons ry rv=>
     cases rv
     rename_i ux uy
     rw [arm_assign_Tuple]
     refine wpAny_bind (wpAny_standAt ?_)
     unfold unpack
     rw [hn,hst]
     refine wpAny_bind (wpAny_holding (unpackItems_two (I.ok.hd hc) hl.isList fun h' hx=>?_))
     have I1:Inv X pins σ H { s with heap:=h' }:=I.kept (t':=s.toks) fun b o e=>hx b o (Nat.ne_of_lt (Heap.lt_size e)) e
     exact h pins _ σ H [x,y] _ Q I1 (.cons rx (.cons ry .nil)) hw
end
section
variable {X:Cx} {CX:CXT} {k:Nat} {f C:Addr} {fd:FuncData} {ps ks:List Str} {sp:Sp} {E:XK} {x m:Str} {p pos apos kpos:Pos} {e o:Expr} {es:List Expr} {kws:List Keyword} {te ta:TE} {t tk:TA}
def tMakeK (C:Addr) (sp:Sp) (gV:List V->List V->List V) (E:XK) (t tk:TA):TE:=fun σ H Q=>t σ H fun vs H1=>tk σ H1 fun zs H2=>∀ x dx,H2 x=none->H2 dx=none->dx≠x->
 sp (gV (.ref x::vs) zs) (upd (upd H2 dx (.own x)) x (.ins C dx [])) (fun v H3=>v=.non/\Q (.ref x) H3) E
variable {g:List Value->List Value->List Value} {gV:List V->List V->List V}
theorem run_makeK {pins:List (Addr×Obj)} {σ:St} {H:Hp} {s:Shared} {Q:VK} {us ws:List Value} {vs zs:List V} (M:Mk X.K C f) (F:FnOk X.prog X.w X.K X.mg X.base CX k f fd ps sp) (hr:Room (k+1) X.A) (hb:KBinds X.K fd ps ks g gV)
 (hx:Passes CX X E) (I:Inv X pins σ H s) (r:Vals vs us) (rz:Vals zs ws)
 (h:∀ x dx,H x=none->H dx=none->dx≠x->sp (gV (.ref x::vs) zs) (upd (upd H dx (.own x)) x (.ins C dx [])) (fun v H2=>v=.non/\Q (.ref x) H2) E) :
 wpAny (model X.prog X.w) X.A (call (.ref C) us (ks.zip ws)) (EP X pins σ Q) X.xe s:=by
 have hq:=h (s.heap.objs.size+1) s.heap.objs.size (I.hok.fresh (Nat.le_succ _)) (I.hok.fresh (Nat.le_refl _)) (Nat.ne_of_lt (Nat.lt_succ_self _))
 have I2:=Inv.made (C:=C) I
 have r2:Vals (gV (V.ref (s.heap.objs.size+1)::vs) zs) (g (Value.ref (s.heap.objs.size+1)::us) ws):=hb.rel (.cons rfl r) rz
 have hl:(g (Value.ref (s.heap.objs.size+1)::us) ws).length=ps.length:=by
  have e:=r2.length
  rw [F.len _ _ _ _ hq] at e
  exact e.symm
 refine wpAny_call (make_map (f:=f) I.kIn M.makes M.init (beq_iff_eq.mp M.fn) (codeAny_mono (F.run _ X.stack _ _ ⟨Value.ref (s.heap.objs.size+1)::us,ks.zip ws⟩ (g (Value.ref (s.heap.objs.size+1)::us) ws) _ _ E (hr.make C us (ks.zip ws))
  (I2.env0.make C us (ks.zip ws)) (hb.to _ (Value.ref (s.heap.objs.size+1)::us) ws I2.kIn hl) r2 hq) fun r s' hq'=>?_))
 cases r with
 |error e=>exact hx pins σ _ _ e s' I2 hq'
 | ok fl=>
   cases fl with
   | ret u=>
     obtain ⟨v,H',I3,rv,ev,q3⟩:=I2.after hq'
     subst ev
     exact ⟨rv,⟨V.ref (s.heap.objs.size+1),H',I3,rfl,q3⟩⟩
   |next=>exact False.elim hq'
   |brk=>exact False.elim hq'
   |cont=>exact False.elim hq'
theorem pe_makeK (M:Mk X.K C f) (F:FnOk X.prog X.w X.K X.mg X.base CX k f fd ps sp) (hr:Room (k+1) X.A) (hg:Gl X x) (hm:X.mg x=some (.ref C)) (hb:KBinds X.K fd ps ks g gV) (hx:Passes CX X E)
 (ha:PA X (e::es) t) (hkw:PK X kws tk) (hall:(backToKw pos (keywordEach kws X.env)).all (·.1.isSome)=true:=by rfl) (hks:(backToKw pos (keywordEach kws X.env)).filterMap (·.1)=ks:=by rfl)
 (hdb:(x == ("__debug__" : Str))=false:=by decide) (he:starEach (e::es) X.env=(false,eval e X.env)::starEach es X.env:=by rfl)
 (hpl:((backTo pos (starEach (e::es) X.env)).any (·.1) || (backToKw pos (keywordEach kws X.env)).any (·.1.isNone))=false:=by rfl) :
 PE X (.Call (.Name x p) (e::es) kws pos) (tMakeK C sp gV E t tk):=by
 intro pins s σ H Q I h
 refine wpAny_Call_Name_kw (ld_glob I hg hm ?_ hdb)
 refine PySem.W.callWith_KW (h₀:=X.base) I.ok.mod.kin M.kp hall (thn (ha pos pins s σ H _ I h) fun us s1 ⟨vs,H1,I1,r,q⟩=>?_) hpl he
 refine thn (hkw pos pins s1 σ H1 _ I1 q) fun ws s2 ⟨zs,H2,I2,rz,q2⟩=>⟨I2.kIn,?_⟩
 rw [hks]
 exact run_makeK M F hr hb hx I2 r rz q2
end
end L2
namespace L2
open PySem PySem.Spec PyProof.Rows PySem.W
theorem codeAmong_snoc2 {pos p:Pos} {c:Value} (l:List Value) (h:TriplesOk l):codeAmong pos (l++[rawInt p.line,rawInt p.col,c])=(codeAmong pos l).or (if (p.line:Int) == pos.line && (p.col:Int) == pos.col then some c else none):=by
 fun_induction TriplesOk l with
 |case1=>simp [codeAmong,rawInt]
 | case2 a t b u c' rest ih=>
   show codeAmong pos (.int a t::.int b u::c'::(rest++_))=_
   rw [codeAmong,codeAmong]
   split
   ·rfl
   ·exact ih h
 |case3=>exact h.elim
theorem triples_snoc {p:Pos} {c:Value} (l:List Value) (h:TriplesOk l):TriplesOk (l++[rawInt p.line,rawInt p.col,c]):=by
 fun_induction TriplesOk l with
 |case1=>simp [TriplesOk,rawInt]
 |case2 a t b u c' rest ih=>exact ih h
 |case3=>exact h.elim
def TabI (H:Hp) (T:Addr) (qual:Str) (lps:List Pos):Prop:=
 ∃ ps,H T=some (.tbl ps)/\TriplesOk ps.toList/\∀ lp∈lps,codeAmong lp ps.toList=none∨∃ c',codeAmong lp ps.toList=some (.ref c')/\H c'=some (codeO c' qual)
theorem TabI.tab {H:Hp} {T:Addr} {qual:Str} {lps:List Pos} {lp:Pos} (h:TabI H T qual lps) (m:lp∈lps):TabOk H T lp qual:=by
 obtain ⟨ps,h1,h2,h3⟩:=h
 exact ⟨ps,h1,h2,h3 lp m⟩
theorem TabI.keep {H H':Hp} {T:Addr} {qual:Str} {lps:List Pos} (h:TabI H T qual lps) (k:∀ b u,H b=some u->(∀ kvs,u≠.dK kvs)->H' b=some u):TabI H' T qual lps:=by
 obtain ⟨ps,h1,h2,h3⟩:=h
 refine ⟨ps,k _ _ h1 (by intro _ z;cases z),h2,fun lp m=>?_⟩
 rcases h3 lp m with z|⟨c',z,e⟩
 ·exact .inl z
 ·exact .inr ⟨c',z,k _ _ e (by intro _ z;cases z)⟩
theorem TabI.same {H H':Hp} {T:Addr} {qual:Str} {lps:List Pos} (h:TabI H T qual lps) (s:Same H H'):TabI H' T qual lps:=h.keep fun b u e _=>s b u e
theorem Lam.code {H H1:Hp} {T c':Addr} {lp:Pos} {qual:Str} (h:Lam H T lp qual c' H1):H1 c'=some (codeO c' qual):=by
 obtain ⟨ps,h1,⟨_,_,_,rfl⟩|⟨_,h2,rfl⟩⟩:=h
 ·exact upd_same
 ·exact h2
theorem Lam.keep {H H1:Hp} {T c':Addr} {lp:Pos} {qual:Str} (h:Lam H T lp qual c' H1) {b:Addr} {u:HO} (e:H b=some u) (ne:∀ ps,u≠.tbl ps):H1 b=some u:=by
 obtain ⟨ps,h1,⟨_,h2,_,rfl⟩|⟨_,h2,rfl⟩⟩:=h
 ·rw [upd_ne (ne_of_none e h2),upd_ne (ne_of e h1 (ne _))];exact e
 ·exact e
theorem TabI.lam {H H1:Hp} {T c':Addr} {lp:Pos} {qual:Str} {lps:List Pos} (h:TabI H T qual lps) (l:Lam H T lp qual c' H1):TabI H1 T qual lps:=by
 obtain ⟨ps,h1,h2,h3⟩:=h
 obtain ⟨ps',e1,l⟩:=l
 rw [h1] at e1
 cases e1
 rcases l with ⟨hn,hc,ne,rfl⟩|⟨_,_,rfl⟩
 ·refine ⟨ps++#[rawInt lp.line,rawInt lp.col,.ref c'],by rw [upd_ne ne.symm,upd_same],?_,fun lp' m=>?_⟩
  ·rw [Array.toList_append]
   exact triples_snoc _ h2
  ·rw [Array.toList_append]
   show codeAmong lp' (ps.toList++[rawInt lp.line,rawInt lp.col,.ref c'])=none∨∃ c'',codeAmong lp' (ps.toList++[rawInt lp.line,rawInt lp.col,.ref c'])=Option.some (Value.ref c'')/\_
   rw [codeAmong_snoc2 _ h2]
   rcases h3 lp' m with z|⟨c'',z,e⟩
   ·rw [z]
    by_cases q:((lp.line:Int) == lp'.line && (lp.col:Int) == lp'.col)=true
    ·rw [if_pos q]
     exact .inr ⟨c',rfl,upd_same⟩
    ·rw [if_neg q]
     exact .inl rfl
   ·rw [z]
    refine .inr ⟨c'',rfl,?_⟩
    rw [upd_ne (ne_of_none e hc),upd_ne (ne_of e h1 (by intro z;cases z))];exact e
 ·exact ⟨ps,h1,h2,h3⟩
theorem law_callM {P:Program} {w:World} {K:PySem.W.Frag} {mg mb:Str->Option Value} {CX:CXT} {k:Nat} {fa a:Addr} {Ts:List Addr} {fd:FuncData} {x:Str} {sp:Sp} {s₁:Shared} {vs:List Value} {ns:List Int}
 (KX:K.In s₁.heap) (hns:s₁.heap.Ns mainGlobals mg) (hb:s₁.heap.Ns builtinsNs mb) (hbb:∀ x:Str,x ≠ "__name__"->mb x=bootBuiltins x) (hlim:s₁.heap.NoLimit) (hg:s₁.gens=#[])
 (ha:s₁.heap.get? a=some { cls:=.type "list",data:=.seq vs.toArray }) (hi:IntsAre vs ns) (hl:ns.length≤sizeLine) (hr:Room k callerA)
 (hT:∀ T∈Ts,s₁.heap.get? T=some (tabObj #[])/\K.lookup T=none/\∃ c,PySem.W.CodeHd s₁.heap c T)
 (F:∀ base:Heap,K.In base->base.Ns mainGlobals mg->(∀ b o,s₁.heap.get? b=some o->b∉Ts->b≠a->base.get? b=some o)->FnOk P w K mg base CX k fa fd [x] sp) (hbind:∀ (s:Shared) (u:Value),BindsTo s fd ⟨[u],[]⟩ [(x,u)])
 (hsp:∀ H:Hp,(∀ T∈Ts,H T=some (.tbl #[]))->SqL K H a (ns.map V.int)->sp [.ref a] H (fun v _=>v=.bl true) fun _ _ _=>False)
 (hCX:∀ H e s',CX [] H s₁ (fun _ _ _=>False) e s'->False) :
 codeAny (model P w) callerA (.call (.ref fa) ⟨[.ref a],[]⟩) (fun r s'=>r=.ok (.ret (.bool true))/\OldK s₁.heap s'.heap/\s'.os=s₁.os/\AllBare s'.gens) s₁:=by
 have rv:=vals_ints hi
 have lenV:=hi.length
 have haT:a∉Ts:=fun q=>by have:=(hT a q).1;rw [ha] at this;cases this
 have core:∀ H0:Hp,(∀ b,H0 b=none∨(b=a/\K.lookup a=none/\H0 b=some (.frz { cls:=.type "list",data:=.seq vs.toArray } (.lst (ns.map V.int)))))->SqL K (fun b=>if b∈Ts then some (.tbl #[]) else H0 b) a (ns.map V.int)->
  codeAny (model P w) callerA (.call (.ref fa) ⟨[.ref a],[]⟩) (fun r s'=>r=.ok (.ret (.bool true))/\OldK s₁.heap s'.heap/\s'.os=s₁.os/\AllBare s'.gens) s₁:=by
  intro H0 hO hS
  generalize hH:(fun b=>if b∈Ts then some (HO.tbl #[]) else H0 b:Hp)=H at hS
  have HT:∀ T∈Ts,H T=some (.tbl #[]):=fun T m=>by rw [← hH];exact if_pos m
  have Hne:∀ b,b∉Ts->H b=H0 b:=fun b e=>by rw [← hH];exact if_neg e
  have Hn:∀ b,b∉Ts->b≠a->H b=none:=fun b h1 h2=>by
   rw [Hne b h1]
   rcases hO b with z|⟨z,_⟩
   ·exact z
   ·exact absurd z h2
  have hok:HOk P w H s₁.heap:=fun b u e=>by
   by_cases q:b∈Ts
   ·rw [HT b q] at e;cases e
    exact (hT b q).1
   ·rw [Hne b q] at e
    rcases hO b with z|⟨rfl,_,z⟩
    ·rw [z] at e;cases e
    ·rw [z] at e;cases e
     exact ⟨ha,by rw [List.length_map];exact hl,vs,_,rv,ha⟩
  have nsN:∀ {b:Addr} {o:Obj} {es:Array DictEntry} {ep:Nat},s₁.heap.get? b=some o->o.data=.dict es ep->H b=none:=fun {b o es ep} e d=>by
   refine Hn b (fun q=>?_) (fun q=>?_)
   ·rw [(hT b q).1] at e;cases e;cases d
   ·subst q;rw [ha] at e;cases e;cases d
  have nsK:∀ {b:Addr} {m:Str->Option Value},s₁.heap.Ns b m->(hidT s₁.heap H).Ns b m:=fun {b m} ⟨o,es,ep,e,d,r⟩=>⟨o,es,ep,hidT_get e (nsN e d),d,r⟩
  have hKb:K.In (hidT s₁.heap H):=fun b o e=>by
   refine hidT_get (KX b o e) ?_
   have q:b∉Ts:=fun m=>by rw [(hT b m).2.1] at e;cases e
   rw [Hne b q]
   rcases hO b with z|⟨rfl,z,_⟩
   ·exact z
   ·rw [z] at e;cases e
  have hM:Mod K mg (hidT s₁.heap H):=⟨hKb,nsK hns,⟨mb,nsK hb,hbb⟩,let ⟨mc,h1,h2⟩:=hlim;⟨mc,nsK h1,h2⟩⟩
  have e0:Env0 P w K mg (hidT s₁.heap H) callerA [] s₁ H:=⟨rfl,hM,fun b o e=>of_hidT e,Nat.le_of_eq (hidT_size _ _),trivial,fun b hb=>absurd (show b∈([]:List Addr) from hb) (by simp),hok,.of_eq hg⟩
  refine codeAny_mono ((F _ hKb (nsK hns) fun b o e h1 h2=>hidT_get e (Hn b h1 h2)).run callerA [] s₁ H ⟨[.ref a],[]⟩ [.ref a] [.ref a] _ _ hr e0 (hbind s₁ (.ref a)) (.cons rfl .nil) (hsp H HT hS)) fun r s' h=>?_
  cases r with
  |error e=>exact (hCX H e s' h).elim
  | ok fl=>
    cases fl with
    |next=>exact False.elim h
    |brk=>exact False.elim h
    |cont=>exact False.elim h
    | ret u=>
      obtain ⟨v,H',os,bare,un,hok',r',q⟩:=h
      cases (show v=.bl true from q)
      cases (show u=Value.bool true from r')
      have was:∀ b o,s₁.heap.get? b=some o->b∉Ts->s'.heap.get? b=some o:=fun b o e h1=>by
       rcases hO b with z|⟨rfl,_,z⟩
       ·exact un.keep b o e (by rw [Hne b h1];exact z) (by intro z;exact absurd (show b∈([]:List Addr) from z) (by simp)) (by simp)
       ·have z2:=un.frzs b _ _ ((Hne b h1).trans z)
        obtain ⟨e2,_⟩:=hok' b _ z2
        rw [ha] at e;cases e
        exact e2
      have tbs:∀ T∈Ts,∃ more,s'.heap.get? T=some { cls:=.none,data:=.fields (#[]++more) }:=fun T m=>by
       obtain ⟨more,hm⟩:=un.tbls T #[] (HT T m)
       exact ⟨more,hok' T _ hm⟩
      refine ⟨rfl,⟨fun b o e=>?_,fun b o e=>?_⟩,os,bare⟩
      ·by_cases h1:b∈Ts
       ·obtain ⟨more,tb⟩:=tbs b h1
        obtain ⟨h2,_,c,hc⟩:=hT b h1
        rw [h2] at e;cases e
        exact .inr (.inl ⟨(hc.tab h2).isCodeTable,rfl,#[],more,rfl,tb⟩)
       ·exact .inl (was b o e h1)
      ·by_cases h1:b∈Ts
       ·obtain ⟨more,tb⟩:=tbs b h1
        exact ⟨_,tb⟩
       ·exact ⟨o,was b o e h1⟩
 cases hk:K.lookup a with
 | some o=>
   have e:=KX a o hk
   rw [ha] at e
   cases e
   exact core (fun _=>none) (fun _=>.inl rfl) (.inr ⟨_,vs.toArray,_,hk,rfl,rfl,rfl,by rw [List.size_toArray,lenV];exact hl,by simpa using rv⟩)
 | none=>
   refine core (fun b=>if b=a then some (.frz { cls:=.type "list",data:=.seq vs.toArray } (.lst (ns.map V.int))) else none) (fun b=>?_) (.inl (.inr ⟨_,(if_neg haT).trans (if_pos rfl)⟩))
   by_cases h:b=a
   ·exact .inr ⟨h,hk,if_pos h⟩
   ·exact .inl (if_neg h)
theorem walk_ofM {l:PySem.W.OpenLaw} {n k:Nat} {q:Program} {loose:List Str} {XP:(Str->Option Value)->Heap->Prop} {YP:World->Heap->Prop} {d:DefRec} {K:Params->PySem.W.Frag} {CX:World->CXT} {x:Str} {Ts:List Addr}
 (hn:l.most=some n) (hn2:n≤sizeLine) (hdf:d.params.defaults=[]) (hr:Room k callerA)
 (hY:∀ (w:World) (h:Heap),YP w h->(K w.params).In h) (hYT:∀ (w:World) (h:Heap),YP w h->∀ T∈Ts,h.get? T=some (tabObj #[]))
 (F:∀ (w:World) (mg:Str->Option Value) (fa:Addr) (h:Heap),(K w.params).In h->h.Ns mainGlobals mg->mg d.name=some (.ref fa)->
  ∃ (fd:FuncData) (sp:Sp),(∀ (s:Shared) (u:Value),BindsTo s fd ⟨[u],[]⟩ [(x,u)])/\(∀ T∈Ts,(K w.params).lookup T=none/\∃ c,tabIn (K w.params) c=some T)/\
    (∀ (H:Hp) (a:Addr) (ns:List Int),ns.length≤n->(∀ T∈Ts,H T=some (.tbl #[]))->SqL (K w.params) H a (ns.map V.int)->sp [.ref a] H (fun v _=>v=.bl true) fun _ _ _=>False)/\
    ∀ base:Heap,(K w.params).In base->base.Ns mainGlobals mg->(∀ T∈Ts,base.BuiltinsAt mg T/\mainGlobals≠T)->FnOk l.prog w (K w.params) mg base (CX w) k fa fd [x] sp)
 (hCX:∀ (w:World) (H:Hp) (s:Shared) (e:Value) (s':Shared),CX w [] H s (fun _ _ _=>False) e s'->False) :
 PySem.W.WalkO q loose XP YP l.row.toRowW d [] (fun f vs=>PySem.call f vs):=by
 refine Att.attach_call hn hdf fun w s₀ s₁ mg mb fa o pm cd doc a vs ns G Y ho hd hcd hmg hobj hints hlen hg=>?_
 have KX:=hY w _ Y
 have TX:=hYT w _ Y
 obtain ⟨fd,sp,hb,ht,hsp,hF⟩:=F w mg fa _ KX G.T.g hmg
 obtain ⟨bm,ob,b1,b2,b3,b4,b5,b6⟩:=G.T.bmain
 have gT:∀ T∈Ts,mainGlobals≠T:=fun T m q=>by
  obtain ⟨o,es,ep,e,hd,_⟩:=G.T.g
  rw [q,TX T m] at e;cases e;cases hd
 have bT:bm∉Ts:=fun m=>by
  rw [TX _ m] at b3;cases b3;cases b4
 have ba:bm≠a:=fun q=>by
  rw [q,hobj] at b3;cases b3;cases b6
 have bG:bm≠mainGlobals:=fun q=>by
  obtain ⟨o,es,ep,e,hd,_⟩:=G.T.g
  rw [q,e] at b3;cases b3;rw [hd] at b6;cases b6
 exact law_callM KX G.T.g G.T.b G.T.builtins G.T.nolimit hg hobj hints (Nat.le_trans hlen hn2) hr (fun T m=>⟨TX T m,(ht T m).1,let ⟨c,z⟩:=(ht T m).2;⟨c,hd_of KX z⟩⟩) (fun base kb nb old=>hF base kb nb fun T m=>⟨⟨bm,ob,b1,b2,bG,fun q=>bT (q ▸ m),old _ _ b3 bT ba,b4,b5,b6⟩,gT T m⟩) hb (fun H hH hS=>hsp H a ns hlen hH hS) fun H e s'=>hCX w H s₁ e s'
end L2
namespace L2
open PySem PySem.Spec PyProof.Rows
section
variable {X:Cx} {scope:Scope} {own:List Str} {js:List Nat} {N':List Str} {wi:TI} {g:TG} {tt:TT} {tk tv:TE} {ke ve tg iter:Expr} {ifs:List Expr} {pos:Pos}
end
end L2
namespace L2
open PySem PySem.Spec PyProof.Rows PySem.SeqAt
theorem len1 {α:Type} {us:List α} (h:us.length=1):∃ a,us=[a]:=List.length_eq_one_iff.mp h
theorem len2 {α:Type} {us:List α} (h:us.length=2):∃ a b,us=[a,b]:=by
 cases us with
 |nil=>cases h
 | cons a r=>
   obtain ⟨b,rfl⟩:=len1 (us:=r) (by simpa using h)
   exact ⟨a,b,rfl⟩
theorem len3 {α:Type} {us:List α} (h:us.length=3):∃ a b c,us=[a,b,c]:=by
 cases us with
 |nil=>cases h
 | cons a r=>
   obtain ⟨b,c,rfl⟩:=len2 (us:=r) (by simpa using h)
   exact ⟨a,b,c,rfl⟩
theorem len4 {α:Type} {us:List α} (h:us.length=4):∃ a b c d,us=[a,b,c,d]:=by
 cases us with
 |nil=>cases h
 | cons a r=>
   obtain ⟨b,c,d,rfl⟩:=len3 (us:=r) (by simpa using h)
   exact ⟨a,b,c,d,rfl⟩
end L2
namespace L2
open PySem PySem.Spec PyProof.Rows
theorem vals_nums:∀ {ns:List Int} {us:List Value},Vals (ns.map V.int) us->∃ ps:List (Int×Tok),us=ps.map (fun p=>Value.int p.1 p.2)/\ps.map (·.1)=ns
 |[],_,r=>by rw [List.map_nil] at r;cases r;exact ⟨[],rfl,rfl⟩
 | n::ns,_,r=>by
   rw [List.map_cons] at r
   cases r with
   | cons h t=>
     obtain ⟨tk,rfl⟩:=(show ∃ t,_=Value.int n t from h)
     obtain ⟨ps,e1,e2⟩:=vals_nums t
     exact ⟨(n,tk)::ps,by rw [e1];rfl,by rw [List.map_cons,e2]⟩
theorem numAt_eq {ps:List (Int×Tok)} {ns:List Int} (e:ps.map (·.1)=ns) {i:Nat} (h:i<ns.length):numAt ps.toArray i=ns[i]:=by
 subst e
 unfold numAt
 simp at h ⊢
 rw [List.getElem?_eq_getElem h]
 rfl
theorem items_eq {ps:List (Int×Tok)}:(ps.map (fun p=>Value.int p.1 p.2)).toArray=intItems ps.toArray:=by
 unfold intItems
 simp
section
variable {X:Cx}
theorem call_maxL (hc:X.calm=true):CallR X (.builtin "max") (fun xs H Q=>∃ p ns,xs=[.ref p]/\SqL X.K H p (ns.map V.int)/\ns≠[]/\∀ b,b∈ns->(∀ x∈ns,x≤b)->Q (.int b) H):=by
 intro pins s σ H xs us Q I r h
 obtain ⟨p,ns,rfl,hq,hne,q⟩:=h
 obtain ⟨u,rfl,ru⟩:=vals1 r
 cases (show u=Value.ref p from ru)
 obtain ⟨its,rv,pl,hz⟩:=I.list hq
 obtain ⟨ps,rfl,e⟩:=vals_nums rv
 have hl:ps.length=ns.length:=by rw [← e,List.length_map]
 have hpos:0<ns.length:=List.length_pos_iff.mpr hne
 have pl':=pl.isList
 rw [items_eq] at pl'
 refine max_intList (I.ok.hd hc) pl' (by simp;omega) fun v h' tk hv k=>?_
 have hb:=argBest_gt (numAt ps.toArray) (ps.toArray.size-1)
 generalize argBest (fun i j=>decide (numAt ps.toArray i > numAt ps.toArray j)) (ps.toArray.size-1)=m at hv hb
 have hm:m<ns.length:=by have:=hb.1;simp at this;omega
 obtain ⟨t,rfl⟩:=intItems_at hv
 rw [numAt_eq e hm]
 refine ⟨.int ns[m],H,I.kept k,⟨_,rfl⟩,q _ (List.getElem_mem hm) fun x hx=>?_⟩
 obtain ⟨j,hj,rfl⟩:=List.getElem_of_mem hx
 have:=hb.2 j (by simp;omega)
 rw [numAt_eq e hj,numAt_eq e hm] at this
 exact this
end
end L2
namespace L2
open PySem PySem.Spec PyProof.Rows PySem.SeqAt
def EvE (t:TE) (σ:St) (H:Hp) (v:V):Prop:=∀ Q:VK,Q v H->t σ H Q
def EvT (t:TT) (σ:St) (H:Hp) (b:Bool):Prop:=∀ Q:Bool->Hp->Prop,Q b H->t σ H Q
def EvR (r:R2) (x y:V) (H:Hp) (v:V):Prop:=∀ Q:VK,Q v H->r x y H Q
def EvF (t:TF) (σ:St) (H:Hp) (m:Nat):Prop:=∀ (out:Str) (Q:VK),out.length+m≤sizeLine->(∀ y,Q (.str y) H)->t out σ H Q
section
variable {σ:St} {H:Hp} {ta tb tc:TE} {t u:TT} {x y z v:V} {r r':R2} {k k':Bool} {f:TF} {m n:Nat}
theorem EvE.var {i:Nat} (h:σ[i]?=some (some v)):EvE (tVar i) σ H v:=fun Q q=>⟨v,h,q⟩
theorem EvE.con:EvE (tC v) σ H v:=fun Q q=>q
theorem EvE.neg {i:Int} (a:EvE ta σ H (.int i)):EvE (tUn (rU fun i=>.int (-i)) ta) σ H (.int (-i)):=fun Q q=>a _ ⟨i,rfl,q⟩
theorem EvR.i0 {g:Int->Int->V} {i j:Int}:EvR (rI0 g) (.int i) (.int j) H (g i j):=fun Q q=>⟨i,j,rfl,rfl,q⟩
theorem EvT.test {t:TE} (a:EvE t σ H (.bl k)):EvT (tTest t) σ H k:=fun Q q=>a _ ⟨k,rfl,q⟩
theorem EvE.chain (a:EvE ta σ H x) (b:EvE tb σ H y) (c:EvE tc σ H z) (h:EvR r x y H (.bl k)) (h':EvR r' y z H (.bl k')):EvE (tChain r r' ta tb tc) σ H (.bl (k && k')):=fun Q q=>a _ (b _ (h _ ⟨k,rfl,by
 cases k with
 |false=>exact ifF rfl q
 |true=>exact ifT rfl (c _ (h' _ q))⟩))
theorem EvT.not (a:EvT t σ H k):EvT (tNot t) σ H (!k):=fun Q q=>a _ q
theorem EvT.iff {D:Ends} {a b:TS} (h:EvT t σ H k) (q:if k=true then a D σ H else b D σ H):tIfS t a b D σ H:=h _ q
theorem EvF.nil:EvF (fun out _ H Q=>out.length≤sizeLine/\Q (.str out) H) σ H 0:=fun out Q l q=>⟨l,q _⟩
theorem EvF.txt {x:Str} (l:x.length≤m) (h:EvF f σ H n):EvF (fun out σ H Q=>(out++x).length≤sizeLine/\f (out++x) σ H Q) σ H (m+n):=fun out Q lo q=>by
 have:=Str.length_append out x
 exact ⟨by omega,h _ Q (by omega) q⟩
theorem EvF.int {te:TE} {i:Int} (a:EvE te σ H (.int i)) (hi:i.natAbs.log2<1920/\(Str.ofString (toString i)).length≤1000) (h:EvF f σ H n):EvF (fun out σ H Q=>te σ H fun x H1=>∃ y,FmtV x y/\(out++y).length≤sizeLine/\f (out++y) σ H1 Q) σ H (1000+n):=fun out Q lo q=>by
 have:=Str.length_append out (Str.ofString (toString i))
 have:=hi.2
 exact a _ ⟨_,.inr ⟨i,rfl,hi.1,rfl⟩,by omega,h _ Q (by omega) q⟩
end
variable {X:Cx}
def rNeL (K:PySem.W.Frag):R2:=fun x y H Q=>∃ d e,Rep K H x (.list d)/\Rep K H y (.list e)/\pdDeps d≤60/\Q (.bl (!pdEqs d e)) H
theorem op_neL (hu:X.A.units+64<cLine):OpR X (compareOp .NotEq) (rNeL X.K):=by
 intro pins s σ H x y v u Q I rx ry h
 obtain ⟨d,e,h1,h2,hd,q⟩:=h
 cases h1 with
 | lst g1 rs1=>
   cases h2 with
   | lst g2 rs2=>
     cases (show v=Value.ref _ from rx)
     cases (show u=Value.ref _ from ry)
     obtain ⟨its1,rv1,p1,_⟩:=I.list g1
     obtain ⟨its2,rv2,p2,_⟩:=I.list g2
     have hz:=allEq (X:=X) (H:=H) (A:=X.A) rs1 rs2 rv1 rv2
     by_cases hs:its1.toArray.size=its2.toArray.size
     ·have hw:=RcNeAt.lists (A:=X.A) p1.isList p2.isList hs (by omega)
       (e:=fun j=>pdEq (d.getD j .none) (e.getD j .none)) (fun j h1 h2=>by simpa using eqs_at I rs1 rs2 rv1 rv2 (A:=X.A.in1) (by show X.A.units+1+_<_;omega) j (by simpa using h1) (by simpa using h2))
      rw [← hs,Nat.min_self,beq_self_eq_true,Bool.and_true] at hz
      rw [hz] at hw
      exact hw _ _ _ _ ⟨.bl _,H,I,rfl,q⟩
     ·have hw:=RcNeAt.lists_lengths (A:=X.A) p1.isList p2.isList (by simpa using hs) (by omega)
      have:pdEqs d e=false:=by
       rw [← hz,beq_eq_false_iff_ne.mpr hs,Bool.and_false]
      rw [this] at q
      exact hw _ _ _ _ ⟨.bl _,H,I,rfl,q⟩
section
variable {σ:St} {H:Hp} {ta tb:TE} {k k':Bool} {x y:V}
end
section
variable {X:Cx}
theorem bt_set:bootBuiltins "set" = some (.type "set"):=by decide +kernel
end
theorem preSum_take {f:Nat->Int} {ns:List Int} (h:∀ i (hi:i<ns.length),f i=ns[i]):∀ k,k≤ns.length->preSum f k=(ns.take k).sum
 |0,_=>rfl
 | k+1,hk=>by
   have hk':k<ns.length:=hk
   show preSum f k+f k=_
   rw [preSum_take h k (Nat.le_of_lt hk'),h k hk',List.take_add_one,List.getElem?_eq_getElem hk',List.sum_append]
   simp
theorem sum_bound {B:Int}:∀ {ns:List Int},(∀ x∈ns,-B≤x/\x≤B)->0≤B->-(B*ns.length)≤ns.sum/\ns.sum≤B*ns.length
 |[],_,_=>by simp
 | n::ns,h,hB=>by
   have h1:=h n (List.mem_cons_self ..)
   have h2:=sum_bound (ns:=ns) (fun x hx=>h x (List.mem_cons_of_mem _ hx)) hB
   rw [List.sum_cons,List.length_cons,Int.natCast_succ,Int.mul_add,Int.mul_one]
   omega
section
variable {X:Cx}
theorem call_sumL (hc:X.calm=true):CallR X (.builtin "sum") (fun xs H Q=>∃ (p:Addr) (ns:List Int),xs=[.ref p]/\SqL X.K H p (ns.map V.int)/\ns.length≤1000/\(∀ x∈ns,-10000000000000≤x/\x≤10000000000000)/\Q (.int ns.sum) H):=by
 intro pins s σ H xs us Q I r h
 obtain ⟨p,ns,rfl,hq,hl,hb,q⟩:=h
 obtain ⟨u,rfl,ru⟩:=vals1 r
 cases (show u=Value.ref p from ru)
 obtain ⟨its,rv,pl,hz⟩:=I.list hq
 obtain ⟨ps,rfl,e⟩:=vals_nums rv
 have hlen:ps.length=ns.length:=by rw [← e,List.length_map]
 have pl':=pl.isList
 rw [items_eq] at pl'
 have at_:∀ i (hi:i<ns.length),numAt ps.toArray i=ns[i]:=fun i hi=>numAt_eq e hi
 refine sum_intList (I.ok.hd hc) pl' (fun j hj=>?_) fun h' tk t' k=>?_
 ·have hj':j<ns.length:=by simpa [hlen] using hj
  rw [at_ j hj',preSum_take at_ (j+1) hj']
  have b1:=hb _ (List.getElem_mem hj')
  have b2:=sum_bound (B:=10000000000000) (ns:=ns.take (j+1)) (fun x hx=>hb x (List.mem_of_mem_take hx)) (by decide)
  have b3:(ns.take (j+1)).length≤1000:=by rw [List.length_take];omega
  refine ⟨⟨?_,?_⟩,?_,?_⟩ <;> omega
 ·have:preSum (numAt ps.toArray) ps.toArray.size=ns.sum:=by
   rw [List.size_toArray,hlen,preSum_take at_ _ (Nat.le_refl _),List.take_length]
  rw [this]
  exact ⟨.int _,H,I.kept k,⟨_,rfl⟩,q⟩
end
section
variable {X:Cx}
end
end L2
namespace L2
open PySem PySem.Spec PyProof.Rows
section
variable {X:Cx} {pins:List (Addr×Obj)} {σ:St} {H:Hp} {s:Shared}
end
section
variable {X:Cx} {scope:Scope} {own:List Str} {js:List Nat} {N':List Str} {wi:TI} {g:TG} {tt:TT} {te:TE} {elt tg iter:Expr} {ifs:List Expr} {pos:Pos}
end
end L2
namespace L2
open PySem
end L2
namespace L2
open PySem PySem.Spec PyProof.Rows PySem.SeqAt
section
variable {prog:Program} {w:World} {A:Around} {E:Value->Shared->Prop} {s:Shared}
end
section
variable {prog:Program} {w:World} {A:Around} {E:Value->Shared->Prop} {s:Shared}
end
variable {X:Cx}
end L2
namespace L2
open PySem PySem.Spec PyProof.Rows PySem.W PyProof.V
def TabK (K:Frag) (a:Addr) (D:List (Str×PyData)):Prop:=KTD.tabLook KTD.flatLooks (fun b=>K.lookup b) a D=true
def flV:PyData->V
 |.int i=>.int i
 |.str x=>.str x
 |.bool b=>.bl b
 |_=>.non
def tabV (D:List (Str×PyData)) (k:Str):Option V:=(KTD.datumAt k D).map flV
theorem flV_rel {h:Heap}:∀ {d:PyData} {v:Value},Flat v d->RelV (flV d) v:=by
 intro d v x
 cases x ⟨#[],h.life⟩
 all_goals first|exact ⟨_,rfl⟩|rfl|exact absurd (Heap.lt_size (by assumption)) (Nat.not_lt_zero _)
def asD (D:List (Str×PyData)):List (Str×KTD.Dat):=D.map fun p=>(p.1,KTD.Dat.flat p.2)
theorem datum_asD {k:Str}:∀ {D:List (Str×PyData)},KTD.datumAt k (asD D)=(KTD.datumAt k D).map KTD.Dat.flat
 |[]=>rfl
 | (x,d)::D=>by
   show (if _ then _ else KTD.datumAt k (asD D))=_
   rw [datum_asD (D:=D)]
   show _=(if _ then _ else KTD.datumAt k D).map _
   split <;> rfl
theorem inKeys_asD {k:Str} {D:List (Str×PyData)}:KTD.inKeys k (asD D)=(tabV D k).isSome:=by
 rw [← KTD.isSome_datumAt,datum_asD]
 unfold tabV
 cases KTD.datumAt k D <;> rfl
section
variable {X:Cx} {pins:List (Addr×Obj)} {σ:St} {H:Hp} {s:Shared} {a:Addr} {D:List (Str×PyData)}
theorem TabK.here (T:TabK X.K a D) (I:Inv X pins σ H s):KTD.Here s.heap s.heap a (asD D):=⟨KTD.TabOf.text (KTD.tab_of_look (fun _ _ h=>KTD.flat_of_looks h) (fun b o e=>I.kIn b o e) T),fun _ _ h=>h⟩
def rInTab (K:Frag) (neg:Bool):R2:=fun x y H Q=>∃ k a D,x=.str k/\y=.ref a/\TabK K a D/\Q (.bl (if neg then !(tabV D k).isSome else (tabV D k).isSome)) H
theorem op_inTab:OpR X (compareOp .In) (rInTab X.K false):=by
 intro pins s σ H x y v u Q I rx ry h
 obtain ⟨k,a,D,rfl,rfl,T,q⟩:=h
 obtain ⟨t,rfl⟩:=rx
 cases (show u=Value.ref a from ry)
 refine KTD.in_text (T.here I) ⟨.bl _,H,I.tok _,rfl,?_⟩
 rw [inKeys_asD]
 exact q
def tTabGet (K:Frag) (td ty:TE):TE:=fun σ H Q=>td σ H fun x H1=>∃ a D,x=.ref a/\TabK K a D/\ty σ H1 fun y H2=>∃ k,y=.str k/\Q ((tabV D k).getD .non) H2
theorem pe_tabGet {o e:Expr} {apos cpos:Pos} {td ty:TE} (ho:PE X o td) (he:PE X e ty) (m:M1 X o "get" apos e cpos):PE X (.Call (.Attribute o "get" apos) [e] [] cpos) (tTabGet X.K td ty):=by
 intro pins s σ H Q I h
 refine wpAny_Call_method m.base m.few m.line PySem.F.plainAttrs_dict PySem.F.slot_dict_get PySem.F.type_dict_get (thn (ho pins s σ H _ I h) fun u s1 ⟨x,H1,I1,rx,a,D,ex,T,q1⟩=>?_)
 subst ex
 obtain rfl:u=Value.ref a:=rx
 refine ⟨(T.here I1).typeIs,(T.here I1).noDict,?_⟩
 rw [m.trees]
 refine Calls.callWith_builtin rfl (Calls.evalArgs_plain (Calls.spliced_cons (thn (he pins s1 σ H1 _ I1 q1) fun iv s2 ⟨y,H2,I2,ry,k,ey,q2⟩=>Calls.spliced_nil ?_)))
 subst ey
 obtain ⟨t,rfl⟩:=ry
 refine call_meetsIn PySem.F.slot_dict_get (T.here I2).typeIs PySem.F.entry_dict_get (PySem.F.args_dict_get_2 _ _) (KTD.meets_get1 (h₀:=s2.heap) (D:=asD D)) ⟨T.here I2,fun d v ha hv=>?_,fun hn=>?_⟩
 ·rw [datum_asD] at ha
  unfold tabV at q2
  cases hd:KTD.datumAt k D with
  |none=>rw [hd] at ha;cases ha
  | some d'=>
    rw [hd] at ha q2
    cases ha
    exact ⟨_,H2,I2.tok _,flV_rel (h:=s.heap) hv,q2⟩
 ·rw [datum_asD] at hn
  unfold tabV at q2
  cases hd:KTD.datumAt k D with
  |some d'=>rw [hd] at hn;cases hn
  | none=>
    rw [hd] at q2
    exact ⟨.non,H2,I2.tok _,rfl,q2⟩
end
end L2
namespace L2
open PySem PySem.Spec PyProof.Rows PySem.SeqAt PySem.Builtin PySem.Builtin.Str
section
variable {X:Cx}
end
end L2
namespace L2
open PySem PySem.Spec PyProof.Rows PySem.SeqAt
section
variable {X:Cx}
end
section
variable {X:Cx}
end
end L2
namespace L2
open PySem PySem.Spec PyProof.Rows PySem.SeqAt PySem.Builtin PySem.Builtin.Str
section
variable {X:Cx}
end
section
variable {X:Cx}
end
section
variable {X:Cx}
end
section
variable {X:Cx}
end
end L2
namespace L2
open PySem PySem.Spec PyProof.Rows PySem.SeqAt
section
variable {X:Cx}
end
section
variable {X:Cx} {pins:List (Addr×Obj)} {σ:St} {H:Hp} {s:Shared} {h':Heap}
end
end L2
namespace L2
open PySem PySem.Spec PyProof.Rows PySem.SeqAt PySem.Builtin PySem.Builtin.Str
section
variable {X:Cx}
end
section
variable {prog:Program} {w:World} {A:Around} {E:Value->Shared->Prop} {s:Shared} {l:Addr}
end
section
variable {X:Cx} {pos:Pos}
end
end L2
namespace L2
open PySem PySem.Spec PyProof.Rows PySem.SeqAt PySem.Builtin
variable {X:Cx} {pos:Pos}
end L2
namespace L2
open PySem PySem.Spec PyProof.Rows PySem.SeqAt PySem.W Builtin.ObjectAttr
end L2
namespace L2
open PySem PySem.Spec PyProof.Rows PySem.SeqAt PySem.W
variable {X:Cx}
end L2
namespace L2
open PySem PySem.Spec PyProof.Rows
section
variable {X:Cx} {scope:Scope} {own:List Str} {js:List Nat} {N':List Str} {wi wi2:TI} {g g2:TG} {tt tt2:TT} {te:TE} {elt tg iter tg2 iter2:Expr} {ifs ifs2:List Expr} {pos:Pos}
end
section
variable {X:Cx}
end
section
variable {prog:Program} {w:World} {A:Around} {R:Result->Shared->Prop} {I:Addr} {fp wr:List Addr} {n:Nat} {P:Nat->Value->Prop} {St:Nat->Heap->Prop}
end
section
variable {prog:Program} {w:World} {A:Around} {E:Value->Shared->Prop} {s:Shared} {l:Addr} {xs:Array (Int×Tok)}
end
section
variable {X:Cx}
end
section
variable {X:Cx} {scope:Scope} {own:List Str} {js:List Nat} {N':List Str} {wi:TI} {g:TG} {tt:TT} {te:TE} {tf:St->TE} {elt tg iter:Expr} {ifs:List Expr} {pos:Pos}
end
end L2
namespace L2
open PySem PySem.Spec PyProof.Rows PySem.SeqAt
section
variable {prog:Program} {w:World} {A:Around} {E:Value->Shared->Prop} {s:Shared} {l:Addr} {x y z:Value}
end
section
variable {X:Cx} {pos:Pos}
end
section
variable {X:Cx}
end
section
variable {X:Cx} {CX:CXT} {k:Nat} {f C:Addr} {fd:FuncData} {ps ks:List Str} {sp:Sp} {E:XK} {m:Str} {pos apos:Pos} {o:Expr} {kws:List Keyword} {ta:TE} {tk:TA} {g:List Value->List Value->List Value} {gV:List V->List V->List V}
end
def stepS (σ:List Str) (v:Str):List Str:=if σ.any (· == v)=true then σ else σ++[v]
def firstS (val:Nat->Str) (i:Nat):List Str:=((List.range i).map val).foldl stepS []
theorem firstS_zero (val:Nat->Str):firstS val 0=[]:=rfl
theorem firstS_succ (val:Nat->Str) (i:Nat):firstS val (i+1)=stepS (firstS val i) (val i):=by
 unfold firstS;rw [List.range_succ,List.map_append,List.foldl_append];rfl
theorem stepS_any (σ:List Str) (v k:Str):(stepS σ v).any (· == k)=(σ.any (· == k) || decide (k=v)):=by
 unfold stepS
 by_cases h:σ.any (· == v)=true
 ·rw [if_pos h]
  by_cases e:k=v
  ·subst e;rw [h];simp
  ·simp [e]
 ·rw [if_neg h,List.any_append]
  by_cases e:k=v
  ·subst e;simp
  ·have hb:(v == k)=false:=by simpa [beq_iff_eq] using (fun h':v=k=>e h'.symm)
   simp [hb,e]
theorem stepS_length (σ:List Str) (v:Str):(stepS σ v).length=if σ.any (· == v) then σ.length else σ.length+1:=by
 unfold stepS;split <;> simp
theorem firstS_length_le (val:Nat->Str):∀ i,(firstS val i).length≤i
 |0=>by rw [firstS_zero];exact Nat.le_refl _
 | i+1=>by
   rw [firstS_succ,stepS_length]
   have ih:=firstS_length_le val i
   split <;> omega
inductive StrsAre:List Value->List Str->Prop
 |nil:StrsAre [] []
 |cons {vs:List Value} {ns:List Str} (n:Str) (t:Tok):StrsAre vs ns->StrsAre (.str n t::vs) (n::ns)
theorem strs_at:∀ {vs:List Value} {ns:List Str},StrsAre vs ns->∀ (i:Nat) (v:Value),vs[i]?=some v->∃ t,v=.str (ns.getD i "") t
 |_,_,.nil,i,v,h=>by simp at h
 |_,_,.cons n t hr,0,v,h=>by simp at h;exact ⟨t,by rw [← h];rfl⟩
 | _,_,.cons n t hr,i+1,v,h=>by
   simp only [List.getElem?_cons_succ] at h
   obtain ⟨t',e⟩:=strs_at hr i v h
   exact ⟨t',by rw [e];rfl⟩
theorem firstS_take {ns:List Str} (hn:ns.Nodup):∀ i,i≤ns.length->firstS (fun i=>ns.getD i "") i=ns.take i
 |0,_=>by rw [firstS_zero,List.take_zero]
 | i+1,h=>by
   have hi:i<ns.length:=h
   rw [firstS_succ,firstS_take hn i (Nat.le_of_lt hi),List.take_add_one,List.getElem?_eq_getElem hi]
   have e:ns.getD i "" = ns[i]:=by simp [List.getD_eq_getElem?_getD,hi]
   unfold stepS
   rw [e,if_neg]
   ·rfl
   ·intro z
    rw [List.any_eq_true] at z
    obtain ⟨x,hx,hxe⟩:=z
    obtain ⟨j,hj,rfl⟩:=List.getElem_of_mem hx
    rw [List.getElem_take,beq_iff_eq] at hxe
    rw [List.length_take] at hj
    exact (List.pairwise_iff_getElem.mp hn) j i (by omega) hi (by omega) hxe
theorem firstS_full {ns:List Str}:∀ i,i≤ns.length->(firstS (fun i=>ns.getD i "") i).length=i->firstS (fun i=>ns.getD i "") i=ns.take i/\(ns.take i).Nodup
 |0,_,_=>by rw [firstS_zero,List.take_zero];exact ⟨rfl,.nil⟩
 | i+1,h,hl=>by
   have hi:i<ns.length:=h
   have e:ns.getD i "" = ns[i]:=by simp [List.getD_eq_getElem?_getD,hi]
   rw [firstS_succ] at hl ⊢
   have le:=firstS_length_le (fun i=>ns.getD i "") i
   rw [stepS_length] at hl
   split at hl
   ·omega
   ·rename_i hn
    obtain ⟨e1,n1⟩:=firstS_full (ns:=ns) i (by omega) (by omega)
    rw [e1,e] at hn
    rw [e1,List.take_add_one,List.getElem?_eq_getElem hi,e]
    unfold stepS
    rw [if_neg hn]
    refine ⟨rfl,?_⟩
    show (ns.take i++[ns[i]]).Nodup
    rw [List.nodup_append]
    refine ⟨n1,by simp,?_⟩
    intro a ha b hb z
    rw [List.mem_singleton] at hb
    subst hb;subst z
    exact hn (List.any_eq_true.mpr ⟨_,ha,by simp⟩)
theorem firstS_len {ns:List Str}:(ns.Nodup/\(firstS (fun i=>ns.getD i "") ns.length).length=ns.length)∨(¬ ns.Nodup/\(firstS (fun i=>ns.getD i "") ns.length).length<ns.length):=by
 by_cases h:ns.Nodup
 ·left
  refine ⟨h,?_⟩
  rw [firstS_take h _ (Nat.le_refl _),List.take_length]
 ·right
  refine ⟨h,?_⟩
  have le:=firstS_length_le (fun i=>ns.getD i "") ns.length
  by_cases e:(firstS (fun i=>ns.getD i "") ns.length).length=ns.length
  ·have:=(firstS_full _ (Nat.le_refl _) e).2
   rw [List.take_length] at this
   exact absurd this h
  ·omega
section
variable {prog:Program} {w:World} {A:Around} {R:Result->Shared->Prop} {I:Addr} {fp wr:List Addr} {G:Array GenState->Array GenState->Prop} {n:Nat} {P:Nat->Value->Prop} {St:Nat->Shared->Prop}
theorem codeAny_set_update_loopT (W:WalksS prog w A.in1 I fp wr G n P St) (S:Addr) (hSf:S∉fp)
 (val:Nat->Str) (hval:∀ i v,P i v->∃ t,v=.str (val i) t) (hb:n+1<scanBound) :
 ∀ (k i:Nat) (s:Shared),n-i=k->i≤n->St i s->
   s.heap.SetOf (strKind prog w) S (fun k'=>(firstS val i).any (· == k')) (firstS val i).length->
   (∀ s',Moved (S::wr) G s s'->s'.heap.SetOf (strKind prog w) S (fun k'=>(firstS val n).any (· == k')) (firstS val n).length->R (.ok (.ret .none)) s')->
   codeAny (model prog w) A (.builtin "set.update.loop" ⟨[.ref S,.ref I],[]⟩) R s:=by
 have hSw:S∉wr:=fun h=>hSf (W.sub _ h)
 have hsub:∀ b∈wr,b∈S::wr:=fun b hb=>List.mem_cons_of_mem _ hb
 intro k
 induction k with
 | zero=>
   intro i s hk hi hst hS hR
   have hin:i=n:=by omega
   subst hin
   refine codeAny_builtin F.entry_set_update_loop ?_
   rw [Around.under_plainId F.plain_set_update_loop _]
   show wpAny _ A.in1 (pyNext (.ref I) >>= _) _ _ s
   refine wpAny_bind (W.done s _ _ hst fun s' hm=>?_)
   show wpAny _ A.in1 (ret Value.none) _ _ s'
   exact wpAny_pure (hR s' (hm.mono hsub) (by
    obtain ⟨o,es,ep,t,ho,rest⟩:=hS
    exact ⟨o,es,ep,t,hm.heap S _ hSw ho,rest⟩))
 | succ k ih=>
   intro i s hk hi hst hS hR
   have hlt:i<n:=by omega
   refine codeAny_builtin F.entry_set_update_loop ?_
   rw [Around.under_plainId F.plain_set_update_loop _]
   show wpAny _ A.in1 (pyNext (.ref I) >>= _) _ _ s
   refine wpAny_bind (W.item i s _ _ hlt hst fun v s' hP hst' hm=>?_)
   obtain ⟨t,rfl⟩:=hval i v hP
   have hS':s'.heap.SetOf (strKind prog w) S (fun k'=>(firstS val i).any (· == k')) (firstS val i).length:=by
    obtain ⟨o,es,ep,tb,ho,rest⟩:=hS
    exact ⟨o,es,ep,tb,hm.heap S _ hSw ho,rest⟩
   show wpAny _ A.in1 (holding [Value.str (val i) t] (setAdd S (.str (val i) t)) >>= _) _ _ s'
   refine wpAny_bind (wpAny_holding ?_)
   unfold setAdd
   refine wpAny_holding ?_
   refine wpAny_bind ((strKind prog w).pyHash (k:=val i) (strKind_is _ _ _ _) ?_)
   have hroom:(firstS val i).length+1<scanBound:=by have:=firstS_length_le val i;omega
   refine wpAny_setAddHashed_of (knd:=strKind prog w) (s:={ s' with toks:=s'.toks+1 }) (strKind_is _ _ _ _) rfl hS' hroom fun h' hsb hS2=>?_
   have hSi:h'.SetOf (strKind prog w) S (fun k'=>(firstS val (i+1)).any (· == k')) (firstS val (i+1)).length:=
    SetOf_congr hS2 (fun k'=>by rw [firstS_succ,stepS_any]) (by rw [firstS_succ,stepS_length])
   refine wpAny_pure ⟨plainId_quiet F.plain_set_update_loop _,ih (i+1) _ (by omega) hlt (W.frame _ s' _ _ hst' (Nat.le_succ _) fun b hb o e=>?_) hSi fun s'' hm'' hS''=>?_⟩
   ·rw [hsb.2 b (fun h:b=S=>hSf (by rw [← h];exact hb))];exact e
   ·refine hR s'' (Moved.trans W.gtrans ((hm.mono hsub).then_heap (Nat.le_succ _) fun b o hb e=>?_) hm'') hS''
    rw [hsb.2 b (fun h:b=S=>hb (by rw [h];exact List.mem_cons_self))];exact e
end
section
open PySem.F
variable {prog:Program} {w:World} {A:Around} {E:Value->Shared->Prop} {s:Shared}
theorem call_set_listT {l:Addr} {items:Array Value} {ns:List Str} {Q:Value->Shared->Prop}
 (hh:A.handled=none) (hl:s.heap.IsList l items) (hi:StrsAre items.toList ns) (hb:items.size+1<scanBound)
 (h:∀ (h':Heap) (tk:Nat),h'.SetOf (strKind prog w) s.heap.objs.size (fun k'=>(firstS (fun i=>ns.getD i "") items.size).any (· == k')) (firstS (fun i=>ns.getD i "") items.size).length->
  (∀ b o,b<s.heap.objs.size->s.heap.get? b=some o->h'.get? b=some o)->Q (.ref s.heap.objs.size) { s with heap:=h',toks:=tk }) :
 wpAny (model prog w) A (call (.type "set") [.ref l]) Q E s:=by
 obtain ⟨c,tl,hmro⟩:=F.called_set.mro
 have hmade:=F.called_set.made
 have hsub:=F.called_set.sub
 refine wpAny_call (codeAny_of_tree ?_)
 show wpAny _ _ (callAny (.type "set") _) _ _ _
 refine wpAny_pure ⟨Code.quiet_builtin _ (by decide +kernel),codeAny_builtin F.entry_type_call ?_⟩
 rw [Around.under_plain (weight_type_call_type "set" [.ref l] []) rfl]
 have h1:=F.called_set.notType
 have h2:=F.called_set.canCreate
 have hct:=F.typeCall_set_1 (.ref l)
 repeat (any_goals (first|assumption|wp_step))
 refine codeAny_mono (code_set_new_1 (.ref l) (E:=E) (Q₁:=fun obj s₁=>∃ led:Bool,obj=.ref s.heap.objs.size/\s₁={ s with heap:=s.heap.push { cls:=.type "set",dict:=none,data:=.set #[] 0 (.fresh 0 0 led) } }) fun led=>⟨led,rfl,rfl⟩) fun r s₁ hr=>?_
 cases r with
 |error e=>exact hr
 | ok fl=>
   cases fl with
   | ret obj=>
     obtain ⟨led,rfl,rfl⟩:=hr
     have hS:(s.heap.push { cls:=.type "set",dict:=none,data:=.set #[] 0 (.fresh 0 0 led) }).get? s.heap.objs.size=some { cls:=.type "set",dict:=none,data:=.set #[] 0 (.fresh 0 0 led) }:=Heap.get?_push_size _ rfl
     have hT:Shared.TypeIs { s with heap:=s.heap.push { cls:=.type "set",dict:=none,data:=.set #[] 0 (.fresh 0 0 led) } } (.ref s.heap.objs.size) "set":=⟨_,hS,rfl⟩
     have hli:=F.called_set.init.lookup
     have hbi:=F.called_set.init.bind (.ref s.heap.objs.size)
     repeat (any_goals (first|assumption|wp_step))
     refine codeAny_mono (codeAny_call_builtin (R:=wants (fun r s₂=>r=.none/\∃ h' tk,s₂={ s with heap:=h',toks:=tk }/\
      h'.SetOf (strKind prog w) s.heap.objs.size (fun k'=>(firstS (fun i=>ns.getD i "") items.size).any (· == k')) (firstS (fun i=>ns.getD i "") items.size).length/\
      (∀ b o,b<s.heap.objs.size->s.heap.get? b=some o->h'.get? b=some o)) E) F.called_set.init.plain F.entry_set_init (check_set_init_1 hT ?_)) fun r₂ s₂ hr₂=>?_
     ·obtain ⟨ol,hol,hcl,nl,hdl⟩:=hl
      obtain ⟨ocls,odict,odata,oslots⟩:=ol
      simp only at hcl hdl
      subst hcl;subst hdl
      have hol':(s.heap.push { cls:=.type "set",dict:=none,data:=.set #[] 0 (.fresh 0 0 led) }).get? l=some { cls:=.type "list",dict:=odict,data:=.seq items nl,slots:=oslots }:=Heap.get?_push_of_some _ hol
      have hsls:=F.sub_list_set
      have hslf:=F.sub_list_frozenset
      have hne:(Value.type "list" == Value.type "dict")=false:=by decide
      have hl1:(s.heap.push { cls:=.type "set",dict:=none,data:=.set #[] 0 (.fresh 0 0 led) }).IsList l items:=⟨_,hol',rfl,nl,rfl⟩
      unfold Builtin.«set.__init__» noKeywords Builtin.Frozenset.updateFrom
      generalize hPI:pyIter=PI
      wp_walk
      subst hPI
      refine wpAny_pyIter_list hl1 ?_
      refine wpAny_bind (wpAny_runValue ?_)
      have hlS:l<s.heap.objs.size:=Heap.lt_size hol
      have hh3:A.in1.in1.in1.handled=none:=by simp [hh]
      have hneI:l≠(s.heap.push { cls:=.type "set",dict:=none,data:=.set #[] 0 (.fresh 0 0 led) }).objs.size:=by
       rw [Heap.size_push];exact Nat.ne_of_lt (Nat.lt_succ_of_lt hlS)
      have hSf:s.heap.objs.size∉[(s.heap.push { cls:=.type "set",dict:=none,data:=.set #[] 0 (.fresh 0 0 led) }).objs.size,l]:=by
       rw [Heap.size_push];simp only [List.mem_cons,List.mem_singleton,List.not_mem_nil,or_false,not_or]
       exact ⟨Nat.ne_of_lt (Nat.lt_succ_self _),Nat.ne_of_gt hlS⟩
      have hval:∀ (i:Nat) (v:Value),items[i]?=some v->∃ t,v=.str ((fun i=>ns.getD i "") i) t:=fun i v hv=>
       strs_at hi i v (by rw [Array.getElem?_toList];exact hv)
      refine codeAny_set_update_loopT ((Walks.list hh3 _ l hneI items).toS) s.heap.objs.size
       hSf (fun i=>ns.getD i "") hval hb (items.size-0) 0 _ (by omega) (Nat.zero_le _)
       ⟨⟨_,Heap.get?_push_size _ rfl,rfl,rfl⟩,(hl1.push _)⟩ ?hS0 ?hR
      case hS0=>
       have hget:((s.heap.push { cls:=.type "set",dict:=none,data:=.set #[] 0 (.fresh 0 0 led) }).push { cls:=.type "list_iterator",data:=.fields #[.ref l,.int 0 0] }).get? s.heap.objs.size
        = some { cls:=.type "set",dict:=none,data:=.set #[] 0 (.fresh 0 0 led) }:=Heap.get?_push_of_some _ hS
       exact PyProof.Rows.SetOf_congr ((PyProof.Rows.setObjOf_fresh (knd:=strKind prog w) led).setOf hget (by unfold scanBound;omega)) (fun _=>rfl) rfl
      case hR=>
       intro s' hm hS'
       obtain ⟨h',g',d',tk',os'⟩:=s'
       have eg:g'=s.gens:=hm.gens
       have ed:d'=s.drawn:=hm.drawn
       have eo:os'=s.os:=hm.os
       subst eg;subst ed;subst eo
       show wpAny _ _ _ _ _ _
       refine wpAny_pure ?_
       show wpAny _ _ (ret Value.none) _ _ _
       refine wpAny_pure ⟨rfl,h',tk',rfl,hS',fun b o hb e=>?_⟩
       have hb1:b≠s.heap.objs.size:=Nat.ne_of_lt hb
       have hb2:b≠(s.heap.push { cls:=.type "set",dict:=none,data:=.set #[] 0 (.fresh 0 0 led) }).objs.size:=by
        rw [Heap.size_push];exact Nat.ne_of_lt (Nat.lt_succ_of_lt hb)
       exact hm.heap b o (by simp only [List.mem_cons,List.mem_singleton,List.not_mem_nil,or_false,not_or];exact ⟨hb1,hb2⟩) (Heap.get?_push_of_some _ (Heap.get?_push_of_some _ e))
     ·cases r₂ with
      |error e=>exact hr₂
      | ok fl₂=>
        cases fl₂ with
        | ret r=>
          obtain ⟨rfl,h',tk,rfl,hS',hk'⟩:=hr₂
          repeat (any_goals (first|assumption|wp_step))
          exact h _ _ hS' hk'
        |_=>exact hr₂.elim
   |_=>exact hr.elim
end
def setT (P:Program) (w:World) (a:Addr) (n:Nat):HO:=.ext fun h=>∃ S,h.SetOf (strKind P w) a S n
theorem setT_ok {P:Program} {w:World} {H:Hp} {h:Heap} {a:Addr} {n:Nat} (x:∃ S,h.SetOf (strKind P w) a S n):ObjOk P w H h a (setT P w a n):=by
 refine ⟨x,?_,fun h1 h2 z k=>?_⟩
 ·obtain ⟨S,o,es,ep,t,e,_⟩:=x
  exact ⟨o,e⟩
 ·obtain ⟨S,o,es,ep,t,e,r⟩:=z
  exact ⟨S,o,es,ep,t,k _ e,r⟩
theorem strs_vals:∀ {ns:List Str} {us:List Value},Vals (ns.map V.str) us->StrsAre us ns
 |[],_,r=>by rw [List.map_nil] at r;cases r;exact .nil
 | n::ns,_,r=>by
   rw [List.map_cons] at r
   cases r with
   | cons r1 r=>
     obtain ⟨t,rfl⟩:=r1
     exact .cons n t (strs_vals r)
section
variable {X:Cx}
theorem call_setT (hc:X.calm=true):CallR X (.type "set") (fun xs H Q=>∃ (p:Addr) (ns:List Str),xs=[.ref p]/\SqL X.K H p (ns.map V.str)/\ns.length≤1000/\∀ a n,H a=none->((ns.Nodup/\n=ns.length)∨(¬ ns.Nodup/\n<ns.length))->Q (.ref a) (upd H a (setT X.prog X.w a n))):=by
 intro pins s σ H xs us Q I r h
 obtain ⟨p,ns,rfl,hq,hl,q⟩:=h
 obtain ⟨u,rfl,ru⟩:=vals1 r
 cases (show u=Value.ref p from ru)
 obtain ⟨its,rv,pl,hz⟩:=I.list hq
 have hlen:=rv.length
 rw [List.length_map] at hlen
 have hz':its.toArray.size=ns.length:=by rw [List.size_toArray,hlen]
 refine call_set_listT (ns:=ns) (I.ok.hd hc) pl.isList (strs_vals rv) (by rw [hz'];exact Nat.lt_of_le_of_lt (show ns.length+1≤1001 by omega) (by decide)) fun h' tk hS kp=>?_
 rw [hz'] at hS
 exact ⟨.ref s.heap.objs.size,_,I.laid (t':=tk) (fun b o e=>kp b o (Heap.lt_size e) e) (Nat.le_refl _) (setT_ok ⟨_,hS⟩),rfl,q _ _ (I.hok.fresh (Nat.le_refl _)) firstS_len⟩
theorem call_lenT:CallR X (.builtin "len") (fun xs H Q=>∃ a n,xs=[.ref a]/\H a=some (setT X.prog X.w a n)/\Q (.int n) H):=by
 intro pins s σ H xs us Q I r h
 obtain ⟨a,n,rfl,ha,q⟩:=h
 obtain ⟨u,rfl,ru⟩:=vals1 r
 cases (show u=Value.ref a from ru)
 obtain ⟨S,o,es,ep,t,e,hex,hd,hel,hS,hb,hf,rfl⟩:=(I.hok a _ ha).1
 exact call_len_set e hex hd hf (Int.lt_of_lt_of_le (Int.ofNat_lt.mpr hb) (by decide)) ⟨.int es.size,H,I.tok _,⟨_,rfl⟩,q⟩
end
def viewO (v d:Addr):HO:=.ext fun h=>h.IsItemsView v d
theorem viewO_ok {P:Program} {w:World} {H:Hp} {h:Heap} {v d:Addr} (x:h.IsItemsView v d):ObjOk P w H h v (viewO v d):=by
 refine ⟨x,?_,fun h1 h2 z k=>?_⟩
 ·obtain ⟨o,e,_⟩:=x
  exact ⟨o,e⟩
 ·obtain ⟨o,e,r⟩:=z
  exact ⟨o,k _ e,r⟩
theorem len_view:typeLookup (.type "dict_items") "__len__" = pure (some (.builtin "dict_items.__len__")):=by rw [typeLookup_type,builtinLookup_eq_fast];kernel_rfl
section
variable {prog:Program} {w:World} {A:Around} {E:Value->Shared->Prop} {s:Shared} {K:Type} [DecidableEq K] {knd:KeyKind prog w K}
theorem collect_items0 {v d:Addr} {ep:Nat} {Q:List Value->Shared->Prop} (hh:A.handled=none) (hv:s.heap.IsItemsView v d) (hm:s.heap.DictAt knd d [] ep)
 (hQ:∀ h',s.heap.objs.size≤h'.objs.size->(∀ b o,s.heap.get? b=some o->h'.get? b=some o)->Q [] { s with heap:=h' }):wpAny (model prog w) A (collect (.ref v)) Q E s:=by
 obtain ⟨ov,hov,hcv,hdv⟩:=id hv
 have hvl:v<s.heap.objs.size:=Heap.lt_size hov
 unfold collect
 refine wpAny_bind (wpAny_runValue (codeAny_builtin F.entry_proto_collect ?_))
 rw [Around.under_plainId F.plain_proto_collect _]
 show wpAny _ A.in1 (newList [] >>= fun l=>again (.builtin "list.__iadd__" ⟨[l,.ref v],[]⟩)) _ _ s
 refine wpAny_bind (wpAny_newObj_type ?_)
 refine wpAny_pure ⟨plainId_quiet F.plain_list_iadd _,codeAny_builtin F.entry_list_iadd ?_⟩
 rw [Around.under_plainId F.plain_list_iadd _]
 show wpAny _ A.in1 (Builtin.List.listExtendWith (.ref s.heap.objs.size) (.ref v) (.ref s.heap.objs.size)) _ _ _
 have hS₁:(s.heap.push { cls:=.type "list",data:=.seq ([]:List Value).toArray }).get? s.heap.objs.size=some { cls:=.type "list",data:=.seq ([]:List Value).toArray }:=Heap.get?_push_size _ rfl
 have k₁:∀ b o,s.heap.get? b=some o->(s.heap.push { cls:=.type "list",data:=.seq ([]:List Value).toArray }).get? b=some o:=fun b o e=>Heap.get?_push_of_some _ e
 have z₁:(s.heap.push { cls:=.type "list",data:=.seq ([]:List Value).toArray }).objs.size=s.heap.objs.size+1:=by rw [Heap.size_push]
 generalize (s.heap.push { cls:=.type "list",data:=.seq ([]:List Value).toArray })=H₁ at hS₁ k₁ z₁ ⊢
 have hv₁:H₁.IsItemsView v d:=⟨ov,k₁ _ _ hov,hcv,hdv⟩
 have hm₁:H₁.DictAt knd d [] ep:=hm.at fun o e=>k₁ _ _ e
 have hT₁:Shared.TypeIs { s with heap:=H₁ } (.ref v) "dict_items":=hv₁.typeIs
 unfold Builtin.List.listExtendWith
 refine wpAny_bind (wpAny_typeOf hT₁ ?_)
 have h1:Builtin.List.listSameRef (.ref s.heap.objs.size) (.ref v)=false:=by simp [Builtin.List.listSameRef,Nat.ne_of_gt hvl]
 have h2:(Value.type "dict_items" == Value.type "list")=false:=by decide
 have h3:(Value.type "dict_items" == Value.type "tuple")=false:=by decide
 simp only [h1,h2,h3,Bool.or_false,Bool.false_eq_true,if_false]
 refine wpAny_bind (wpAny_pyIter_items (s:={ s with heap:=H₁ }) hv₁ hm₁ ?_)
 have hI₂:IsItemIter (H₁.push { cls:=.type "dict_itemiterator",data:=.fields #[.none,.bool false,.ref d,.int 0 0,.int (([]:List (K×Value)).length:Nat) 0,.int ep 0,.none,.none] }) H₁.objs.size d 0 0 ep .none .none:=Heap.get?_push_size _ rfl
 have k₂:∀ b o,H₁.get? b=some o->(H₁.push { cls:=.type "dict_itemiterator",data:=.fields #[.none,.bool false,.ref d,.int 0 0,.int (([]:List (K×Value)).length:Nat) 0,.int ep 0,.none,.none] }).get? b=some o:=fun b o e=>Heap.get?_push_of_some _ e
 dsimp only
 generalize (H₁.push { cls:=.type "dict_itemiterator",data:=.fields #[.none,.bool false,.ref d,.int 0 0,.int (([]:List (K×Value)).length:Nat) 0,.int ep 0,.none,.none] })=H₂ at hI₂ k₂ ⊢
 have hT₂:Shared.TypeIs { s with heap:=H₂ } (.ref v) "dict_items":=⟨ov,k₂ _ _ (k₁ _ _ hov),hcv⟩
 refine wpAny_bind (wpAny_holding ?_)
 unfold Builtin.List.listLengthHint
 refine wpAny_bind (wpAny_specialOf hT₂ len_view ?_)
 wp_delta
 refine wpAny_bind (wpAny_isInstance (b:=true) hT₂ (by rw [isSubtype_type];kernel_rfl) ?_)
 show wpAny _ A.in1 (typeOf (Value.ref v) >>= _) _ _ _
 refine wpAny_bind (wpAny_typeOf hT₂ ?_)
 refine wpAny_pure ?_
 show wpAny _ A.in1 (rule "list.extend.makes-room" >>= fun _=>Builtin.List.listTouch (.ref s.heap.objs.size) >>= fun _=>
  again (.builtin "list.extend.loop" ⟨[.ref s.heap.objs.size,.ref H₁.objs.size,.ref s.heap.objs.size],[]⟩)) _ _ _
 refine wpAny_bind (wpAny_rule ?_)
 refine wpAny_bind ?_
 show wpAny _ A.in1 (updateSeq s.heap.objs.size (·.push .none) >>= fun _=>updateSeq s.heap.objs.size (·.pop)) _ _ _
 have hS₂:=k₂ _ _ hS₁
 refine wpAny_bind (wpAny_updateSeq hS₂ rfl ?_)
 have hS₃:=Heap.get?_update_self (Obj.mapSeq (·.push Value.none)) hS₂ rfl
 refine wpAny_updateSeq hS₃ rfl ?_
 have hS₄:=Heap.get?_update_self (Obj.mapSeq (·.pop)) hS₃ rfl
 have oth:∀ b o,b≠s.heap.objs.size->H₂.get? b=some o->((H₂.update s.heap.objs.size (Obj.mapSeq (·.push Value.none))).update s.heap.objs.size (Obj.mapSeq (·.pop))).get? b=some o:=
  fun b o hb e=>(Heap.get?_update_other _ _ (Ne.symm hb)).trans ((Heap.get?_update_other _ _ (Ne.symm hb)).trans e)
 dsimp only
 generalize ((H₂.update s.heap.objs.size (Obj.mapSeq (·.push Value.none))).update s.heap.objs.size (Obj.mapSeq (·.pop)))=H₄ at hS₄ oth ⊢
 have ne:H₁.objs.size≠s.heap.objs.size:=by rw [z₁];exact Nat.succ_ne_self _
 have hd:d<s.heap.objs.size:=by
  obtain ⟨o,es,ho,_⟩:=hm
  exact Heap.lt_size ho
 refine wpAny_pure ⟨plainId_quiet F.plain_extend_loop _,codeAny_builtin F.entry_extend_loop ?_⟩
 rw [Around.under_plainId F.plain_extend_loop _]
 show wpAny _ A.in1 (pyNext (.ref H₁.objs.size) >>= _) _ _ _
 refine wpAny_bind (wpAny_pyNext_items_end (knd:=knd) (kvs:=[]) (s:={ s with heap:=H₄ }) hh (oth _ _ ne hI₂) (hm₁.at fun o e=>oth _ _ (Nat.ne_of_lt hd) (k₂ _ _ e)) rfl fun h' x=>?_)
 refine wpAny_pure ?_
 show wpAny _ A (load s.heap.objs.size >>= _) _ _ _
 refine wpAny_bind (wpAny_load (x _ _ (Ne.symm ne) hS₄) ?_)
 refine wpAny_pure (hQ h' (Nat.le_of_lt (Heap.lt_size (x _ _ (Ne.symm ne) hS₄))) fun b o e=>x _ _ ?_ (oth _ _ (Nat.ne_of_lt (Heap.lt_size e)) (k₂ _ _ (k₁ _ _ e))))
 rw [z₁]
 exact Nat.ne_of_lt (Nat.lt_succ_of_lt (Heap.lt_size e))
theorem sorted_items0 {v d:Addr} {ep:Nat} {Q:Value->Shared->Prop} (hh:A.handled=none) (hv:s.heap.IsItemsView v d) (hm:s.heap.DictAt knd d [] ep)
 (hQ:∀ h' l c,s.heap.objs.size≤l->(∀ b o,s.heap.get? b=some o->h'.get? b=some o)->h'.get? l=some (seqObj "list" #[] c)->Q (.ref l) { s with heap:=h' }):wpAny (model prog w) A (call (.builtin "sorted") [.ref v]) Q E s:=by
 refine Calls.call_function_entry kind_sorted plain_sorted entry_sorted (args_sorted1 _) ?_
 unfold Builtin.«sorted»
 refine wpAny_bind (m:=checkCount "sorted" 1 1 _) (wpAny_pure ?_)
 refine wpAny_bind (collect_items0 (by simp [hh]) hv hm fun h' hle k=>?_)
 refine wpAny_bind (wpAny_newList ?_)
 have hoL:(h'.push (seqObj "list" ([]:List Value).toArray 0)).get? h'.objs.size=some (seqObj "list" ([]:List Value).toArray 0):=Heap.get?_push_size _ rfl
 show wpAny _ _ _ _ _ { s with heap:=h'.push (seqObj "list" ([]:List Value).toArray 0) }
 refine wpAny_bind (wpAny_holding (wpAny_call_entry slot_list_sort ⟨_,hoL,rfl⟩ entry_list_sort (list_sort_tree hoL .nil (by decide) fun out ns' a1 a2 a3=>⟨_,rfl,?_⟩) (args_list_sort _)))
 obtain ⟨c,ec⟩:=sortedHeap_at (vs:=[]) (out:=out) hoL
 have:out=#[]:=by
  have e:=a2.length_eq
  have l:=a1.length
  simp at e l
  subst e
  simpa using l
 subst this
 refine wpAny_pure ⟨_,rfl,hQ _ _ c hle (fun b o e=>?_) ec⟩
 rw [sortedHeap_old (Nat.ne_of_lt (Nat.lt_of_lt_of_le (Heap.lt_size e) hle)) (by rw [Heap.size_push];exact Nat.lt_succ_of_lt (Nat.lt_of_lt_of_le (Heap.lt_size e) hle))]
 exact Heap.get?_push_of_some _ (k _ _ e)
end
section
variable {X:Cx}
def rItems:V->List V->Hp->VK->Prop:=fun x vs H Q=>∃ a kvs,x=.ref a/\vs=[]/\H a=some (.dK kvs)/\∀ v,H v=none->Q (.ref v) (upd H v (viewO v a))
theorem mt_items:MtR X "dict.items" rItems:=by
 intro pins s σ H x vs v us Q I rx rv h
 obtain ⟨a,kvs,rfl,rfl,ha,q⟩:=h
 cases (show v=Value.ref a from rx)
 cases rv
 obtain ⟨_,lo,vs,_,hd⟩:=dk_of I.hok ha
 exact call_meetsIn PySem.F.slot_dict_items hd.typeIs PySem.F.entry_dict_items (PySem.F.args_dict_items_1 _) (meets_dict_items _ a lo)
  ⟨⟨vs,hd⟩,.ref s.heap.objs.size,_,I.laid (t':=s.toks) (a:=s.heap.objs.size) (fun b o e=>Heap.get?_push_of_some _ e) (Nat.le_refl _) (viewO_ok (d:=a) ⟨_,Heap.get?_push_size _ rfl,rfl,rfl⟩),rfl,q _ (I.hok.fresh (Nat.le_refl _))⟩
theorem call_sorted0 (hc:X.calm=true):CallR X (.builtin "sorted") (fun xs H Q=>∃ v a,xs=[.ref v]/\H v=some (viewO v a)/\H a=some (.dK [])/\∀ l,H l=none->Q (.ref l) (upd H l (.lst []))):=by
 intro pins s σ H xs us Q I r h
 obtain ⟨v,a,rfl,hv,ha,q⟩:=h
 obtain ⟨u,rfl,ru⟩:=vals1 r
 cases (show u=Value.ref v from ru)
 have V:=(I.hok v _ hv).1
 obtain ⟨_,lo,vs,kv,hd⟩:=dk_of I.hok ha
 cases kv
 obtain ⟨ep,hd⟩:=hd.dictAt
 refine sorted_items0 (I.ok.hd hc) V hd fun h' l c hl k e=>?_
 exact ⟨.ref l,_,I.laid (t':=s.toks) (a:=l) k hl (show ObjOk X.prog X.w _ _ _ (.lst []) from ⟨Nat.zero_le _,[],c,.nil,e⟩),rfl,q _ (I.hok.fresh hl)⟩
end
end L2
namespace Cm
open PySem L2
def top (i:Nat):Stmt:=PySem.Challenge.pw_lanescribe_k23_tallies_refused.main.body.getD i (.Pass ⟨0,0,0,0⟩)
def drK (c:Addr) (a r s:Int):List (Key×V):=[(.inr "cells",.ref c),(.inr "at",.int a),(.inr "rest",.int r),(.inr "seed",.int s)]
theorem pat {c:Addr} {a r s x:Int}:putK (drK c a r s) (.inr "at") (.int x)=drK c x r s:=by rfl
theorem prest {c:Addr} {a r s x:Int}:putK (drK c a r s) (.inr "rest") (.int x)=drK c a x s:=by rfl
theorem pseed {c:Addr} {a r s x:Int}:putK (drK c a r s) (.inr "seed") (.int x)=drK c a r x:=by rfl
theorem gcells {H:Hp} {p c:Addr} {a r s:Int} (h:H p=some (.dK (drK c a r s))):DGet H p (.str "cells") (some (.ref c)):=DGet.k (k:=Sum.inr "cells") h
theorem gat {H:Hp} {p c:Addr} {a r s:Int} (h:H p=some (.dK (drK c a r s))):DGet H p (.str "at") (some (.int a)):=DGet.k (k:=Sum.inr "at") h
theorem grest {H:Hp} {p c:Addr} {a r s:Int} (h:H p=some (.dK (drK c a r s))):DGet H p (.str "rest") (some (.int r)):=DGet.k (k:=Sum.inr "rest") h
theorem gseed {H:Hp} {p c:Addr} {a r s:Int} (h:H p=some (.dK (drK c a r s))):DGet H p (.str "seed") (some (.int s)):=DGet.k (k:=Sum.inr "seed") h
abbrev Big:Int:=2305843009213693951
structure Dr (H:Hp) (p c:Addr):Prop where
 ex:∃ (ns:List Int) (a r s:Int),H p=some (.dK (drK c a r s))/\H c=some (.lst (ns.map V.int))/\ns.length≤63/\0≤a/\a≤ns.length/\0≤r/\0≤s/\s<Big
theorem Dr.mono {H H':Hp} {p c:Addr} (d:Dr H p c) (h:Same H H'):Dr H' p c:=by
 obtain ⟨ns,a,r,s,h1,h2,k⟩:=d.ex
 exact ⟨ns,a,r,s,h _ _ h1,h _ _ h2,k⟩
theorem Dr.ne {H:Hp} {p c q:Addr} {o:HO} (d:Dr H p c) (h:H q=some o) (hd:∀ kvs,o≠.dK kvs):q≠p:=by
 obtain ⟨ns,a,r,s,h1,_⟩:=d.ex
 exact ne_of h h1 (hd _)
theorem Dr.put {H:Hp} {p c q:Addr} {o:HO} (d:Dr H p c) (h1:q≠p) (h2:q≠c):Dr (upd H q o) p c:=by
 obtain ⟨ns,a,r,s,e1,e2,k⟩:=d.ex
 exact ⟨ns,a,r,s,by rw [upd_ne h1.symm];exact e1,by rw [upd_ne h2.symm];exact e2,k⟩
theorem Dr.cell {H:Hp} {p c:Addr} (d:Dr H p c):∃ xs,H c=some (.lst xs):=by
 obtain ⟨ns,a,r,s,e1,e2,k⟩:=d.ex
 exact ⟨_,e2⟩
theorem Dr.neN {H:Hp} {p c q:Addr} (d:Dr H p c) (h:H q=none):p≠q:=by
 obtain ⟨ns,a,r,s,h1,_⟩:=d.ex
 exact ne_of_none h1 h
structure Txt (K:PySem.W.Frag) (mg:Str->Option Value):Prop where
 len:mg "len" = none
 range:mg "range" = none
 list:mg "list" = none
 tuple:mg "tuple" = none
 str:mg "str" = none
 bool:mg "bool" = none
 int:mg "int" = none
 min:mg "min" = none
 repr:mg "repr" = none
 all:mg "all" = none
 any:mg "any" = none
 isinstance:mg "isinstance" = none
section
variable {P:Program} {w:World} {K:PySem.W.Frag} {mg:Str->Option Value} {base:Heap}
def spBegin (K:PySem.W.Frag):Sp:=fun vs H Q _=>∃ (a:Addr) (ns:List Int),vs=[.ref a]/\SqL K H a (ns.map V.int)/\ns.length≤63/\∀ (p c:Addr) (H':Hp),Dr H' p c->Same H H'->H p=none->Q (.ref p) H'
theorem scB:FnScope ["_law_script","_law_seed","_law_cell"] ["_law_script"] (defScope (top 30)):=⟨rfl,rfl,rfl,by decide +kernel,rfl,by decide +kernel,by decide +kernel⟩
theorem ok_begin {f:Addr} {fd:FuncData} (F:Fun K "_law_begin" "_law_begin" (top 30) f fd) (T:Txt K mg):FnOk P w K mg base CX0 1 f fd ["_law_script"] (spBegin K):=by
 refine F.ok scB (fun vs H Q E h=>?_) (fun cdv A outer s H vs Q E hr h=>?_)
 ·obtain ⟨a,ns,rfl,_⟩:=h
  rfl
 ·obtain ⟨a,ns,rfl,hS,hlen,k⟩:=h
  refine ⟨_,(pss_cons (ps_set (i:=1) scB.nd rfl (Or.inl rfl) pe_int)
   (pss_cons (ps_for PassesOwn.never rfl (pi_list (pe_slice sl_list (pv 0) po_none (po_some pe_int))) (pg_name (i:=2) scB.nd rfl (Or.inl rfl))
    (pss_one (ps_set (i:=1) scB.nd rfl (Or.inl rfl) (pe_op op_mod (pe_op op_add (pe_op op_add (pe_op op_mul (pv 1) pe_int) (pe_op op_mul (pv 2) pe_int)) pe_int) pe_int))))
   (pss_one (ps_ret (pe_disp (pps_cons pe_str (pe_callTy call_list_of (by rfl) T.list bt_list (pa_cons (pe_slice sl_list (pv 0) po_none (po_some pe_int)) pa_nil)) (pps_cons pe_str pe_int (pps_cons pe_str pe_int (pps_cons pe_str (pv 1) pps_nil)))) rfl rfl (List.cons_ne_nil _ _) (by show 4≤15;decide)))))),?_⟩
  have hcut:cutV (ns.map V.int) none (some 63)=ns.map V.int:=by
   show ((ns.map V.int).drop (HT.sIx _ 0 none)).take (HT.sIx _ _ (some ((63:Nat):Int))-HT.sIx _ 0 none)=_
   rw [HT.sIx_none,HT.sIx_nat,List.drop_zero,Nat.sub_zero,List.take_of_length_le]
   rw [List.length_map];omega
  refine ⟨_,rfl,_,rfl,a,_,rfl,hS,fun q hq=>⟨q,rfl,⟨_,SqL.of upd_same⟩,?_⟩⟩
  rw [hcut]
  have hS':∀ o,SqL K (upd H q o) a (ns.map V.int):=fun o=>(show Same H (upd H q o) from fun b u e=>by rw [upd_ne (ne_of_none e hq)];exact e).seq hS
  refine for_list (K:=K) (a:=q) (xs:=ns.map V.int) (fun i σ H2=>∃ (z:Int) (v:Option V),σ=[some (.ref a),some (.int z),v]/\0≤z/\z<Big/\H2=upd H q (.lst (ns.map V.int)))
   ⟨20011,none,rfl,by decide,by decide,rfl⟩ (fun i σ H2 _ ⟨_,_,_,_,_,e⟩=>by rw [e];exact SqL.of upd_same) ?_ ?_
  ·rintro i y σ H2 hi ⟨z,v,rfl,h0,h1,rfl⟩
   obtain ⟨n,-,rfl⟩:=List.mem_map.mp (List.mem_of_getElem? hi)
   refine ⟨_,rfl,_,_,rfl,rfl,.inl ⟨by omega,by simp only [Big] at h1;omega⟩,_,rfl,_,_,rfl,rfl,.inr ⟨by decide,by decide⟩,_,_,rfl,rfl,_,_,rfl,rfl,_,_,rfl,rfl,(by show (0:Int)<2305843009213693951;decide),?_⟩
   exact ⟨_,_,rfl,Int.emod_nonneg _ (by decide),Int.emod_lt_of_pos _ (by decide),rfl⟩
  ·rintro σ H2 ⟨z,v,rfl,h0,h1,rfl⟩
   intro p hp
   have s1:Same H (upd (upd H q (.lst (ns.map V.int))) p (.dK [])):=(Same.new hq).trans (Same.new hp)
   refine ⟨_,rfl,_,rfl,a,_,rfl,s1.seq hS,fun q2 hq2=>⟨q2,_,rfl,.inl (SqL.of upd_same),fun l hl=>⟨_,rfl,?_,drK l 0 0 z,rfl,by show 4≤15;decide,?_⟩⟩⟩
   ·exact (Same.new hl) _ _ ((Same.new hq2) _ _ upd_same)
   ·rw [hcut]
    have hpl:(upd (upd (upd (upd H q (.lst (ns.map V.int))) p (.dK [])) q2 (.lst (ns.map V.int))) l (.lst (ns.map V.int))) p=some (.dK []):=(Same.new (by rw [hcut] at hl;exact hl)) _ _ ((Same.new hq2) _ _ upd_same)
    have hlp:l≠p:=ne_of upd_same hpl (by intro z;cases z)
    refine k p l _ ⟨ns,0,0,z,upd_same,by rw [upd_ne hlp];exact upd_same,hlen,by decide,by omega,by decide,h0,h1⟩ ?_ ((Same.new hq).free hp)
    intro b u e
    have e1:=((Same.new (q:=l) (o:=.lst (ns.map V.int)) (by rw [hcut] at hl;exact hl)) _ _ ((Same.new hq2) _ _ (s1 b u e)))
    rw [upd_ne (ne_of_none ((Same.new hq) b u e) hp)]
    exact e1
def spPick:Sp:=fun vs H Q _=>∃ (p c:Addr) (m:Int),vs=[.ref p,.int m]/\Dr H p c/\0<m/\m<340282366920938463463374607431768211456/\∀ (r:Int) (H':Hp),0≤r->r<m->Dr H' p c->But p H H'->Q (.int r) H'
theorem scP:FnScope ["_law_d","_law_many","_law_cell","_law_digit","_law_one"] ["_law_d","_law_many"] (defScope (top 31)):=⟨rfl,rfl,rfl,by decide +kernel,rfl,by decide +kernel,by decide +kernel⟩
theorem ok_pick {f:Addr} {fd:FuncData} (F:Fun K "_law_pick" "_law_pick" (top 31) f fd) (T:Txt K mg):FnOk P w K mg base CX0 1 f fd ["_law_d","_law_many"] spPick:=by
 refine F.ok scP (fun vs H Q E h=>?_) (fun cdv A outer s H vs Q E hr h=>?_)
 ·obtain ⟨p,c,m,rfl,_⟩:=h
  rfl
 ·obtain ⟨p,c,m,rfl,D,m0,m1,k⟩:=h
  have hu:=hu_of hr
  refine ⟨_,(pss_cons
 (ps_if (PW.pt (pw_and (pt_cmpR op_eq (pe_dget hu (pv 0) pe_str (fun _ _=>rfl)) pe_int (nomark _)) (pw_and1 (pt_cmpR op_lt (pe_dget hu (pv 0) pe_str (fun _ _=>rfl)) (pe_callB call_len_seq (by rfl) T.len bt_len (pa_cons (pe_dget hu (pv 0) pe_str (fun _ _=>rfl)) pa_nil)) (nomark _))))) (pss_cons
 (ps_set (i:=2) scP.nd rfl (Or.inl rfl) (pe_ix ix_list (pe_dget hu (pv 0) pe_str (fun _ _=>rfl)) (pe_dget hu (pv 0) pe_str (fun _ _=>rfl)) (fun _ _=>rfl)))
 (pss_cons
 (ps_dput hu (pv 0) pe_str (pe_op op_add (pe_dget hu (pv 0) pe_str (fun _ _=>rfl)) pe_int) rfl)
 (pss_one
 (ps_if (pt_cmpR op_ge (pv 2) (pe_op op_pow pe_int pe_int) (nomark _)) (pss_one
 (ps_dput hu (pv 0) pe_str (pv 2) rfl)) (pss_one
 (ps_dput hu (pv 0) pe_str (pe_op op_mod (pe_op op_add (pe_op op_add (pe_op op_mul (pe_dget hu (pv 0) pe_str (fun _ _=>rfl)) pe_int) (pe_op op_mul (pv 2) pe_int)) pe_int) pe_int) rfl)))))) pss_nil)
 (pss_cons
 (ps_if (pt_cmpR op_gt (pe_dget hu (pv 0) pe_str (fun _ _=>rfl)) pe_int (nomark _)) (pss_cons
 (ps_set (i:=3) scP.nd rfl (Or.inl rfl) (pe_op op_mod (pe_dget hu (pv 0) pe_str (fun _ _=>rfl)) (pv 1)))
 (pss_cons
 (ps_dput hu (pv 0) pe_str (pe_op op_fdivW (pe_dget hu (pv 0) pe_str (fun _ _=>rfl)) (pv 1)) rfl)
 (pss_one
 (ps_ret (pv 3))))) pss_nil)
 (pss_cons
 (ps_set (i:=4) scP.nd rfl (Or.inl rfl) (pe_op op_mod (pe_op op_mul (pe_dget hu (pv 0) pe_str (fun _ _=>rfl)) (pe_dget hu (pv 0) pe_str (fun _ _=>rfl))) pe_int))
 (pss_cons
 (ps_dput hu (pv 0) pe_str (pe_op op_mod (pe_op op_add (pe_op op_add (pe_op op_mul (pv 4) pe_int) (pe_op op_mul (pe_dget hu (pv 0) pe_str (fun _ _=>rfl)) pe_int)) pe_int) pe_int) rfl)
 (pss_one
 (ps_ret (pe_op op_mod (pe_op op_fdiv (pe_dget hu (pv 0) pe_str (fun _ _=>rfl)) pe_int) (pv 1)))))))),?_⟩
  obtain ⟨ns,a,r,sd,h1,h2,hl,a0,a1,r0,s0,s1⟩:=D.ex
  have npc:c≠p:=ne_of h2 h1 (by intro z;cases z)
  have small:∀ {x y z:Int},(drK c x y z).length<sizeLine:=fun {x y z}=>small1000 (by show 4≤1000;decide)
  refine seq_by (fun σ' H'=>∃ (a' r' sd':Int) (v:Option V),σ'=[some (.ref p),some (.int m),v,none,none]/\H' p=some (.dK (drK c a' r' sd'))/\But p H H'/\0≤a'/\a'≤ns.length/\0≤r'/\0≤sd'/\sd'<Big) ?_ ?_
  ·rintro σ' H1 ⟨a',r',sd',v,rfl,e1,bt,b0,b1,c0,d0,d1⟩
   have hc1:∀ o,(upd H1 p o) c=some (.lst (ns.map V.int)):=fun o=>by rw [upd_ne npc];exact bt c _ h2 npc
   refine ⟨_,rfl,p,_,rfl,grest e1,_,_,rfl,rfl,_,rfl,?_⟩
   refine ite2 (fun hpos=>?_) (fun _=>?_)
   ·refine ⟨_,rfl,p,_,rfl,grest e1,_,rfl,_,_,rfl,rfl,m0,?_⟩
    refine ⟨_,rfl,p,_,rfl,grest e1,_,rfl,_,_,rfl,rfl,⟨m0,m1⟩,_,rfl,p,_,rfl,DPut.k (k:=Sum.inr "rest") e1 small,_,rfl,?_⟩
    rw [prest]
    exact k _ _ (Int.emod_nonneg _ (by omega)) (Int.emod_lt_of_pos _ m0) ⟨ns,a',r' / m,sd',upd_same,hc1 _,hl,b0,b1,Int.ediv_nonneg c0 (by omega),d0,d1⟩ (bt.trans But.upd)
   ·have sq:CMul sd' sd':=.inl ⟨by omega,by simp only [Big] at d1;omega⟩
    refine ⟨_,rfl,p,_,rfl,gseed e1,_,rfl,p,_,rfl,gseed e1,_,_,rfl,rfl,sq,_,_,rfl,rfl,(by show (0:Int)<2305843009213693951;decide),?_⟩
    have u0:=Int.emod_nonneg (sd'*sd') (show (2305843009213693951:Int)≠0 by decide)
    have u1:=Int.emod_lt_of_pos (sd'*sd') (show (0:Int)<2305843009213693951 by decide)
    refine ⟨_,rfl,_,_,rfl,rfl,.inr ⟨by decide,by decide⟩,_,rfl,p,_,rfl,gseed e1,_,_,rfl,rfl,.inr ⟨by decide,by decide⟩,_,_,rfl,rfl,_,_,rfl,rfl,_,_,rfl,rfl,(by show (0:Int)<2305843009213693951;decide),_,rfl,p,_,rfl,DPut.k (k:=Sum.inr "seed") e1 small,?_⟩
    rw [pseed]
    generalize hsd:(sd'*sd' % 2305843009213693951*7+sd'*40503+12345) % 2305843009213693951=sn
    have v0:0≤sn:=hsd ▸ Int.emod_nonneg _ (by decide)
    have v1:sn<Big:=hsd ▸ Int.emod_lt_of_pos _ (by decide)
    refine ⟨_,rfl,p,_,rfl,gseed upd_same,_,_,rfl,rfl,⟨by decide,by decide⟩,_,rfl,_,_,rfl,rfl,m0,?_⟩
    exact k _ _ (Int.emod_nonneg _ (by omega)) (Int.emod_lt_of_pos _ m0) ⟨ns,a',r',sn,upd_same,hc1 _,hl,b0,b1,c0,v0,v1⟩ (bt.trans But.upd)
  ·intro N hN
   refine ⟨_,rfl,p,_,rfl,grest h1,rfl,_,rfl,?_⟩
   refine ite2 (fun hz=>?_) (fun _=>?_)
   ·refine ⟨_,rfl,p,_,rfl,gat h1,_,rfl,p,_,rfl,gcells h1,c,_,rfl,.inl (SqL.of h2),_,_,rfl,rfl,_,rfl,?_⟩
    rw [List.length_map]
    refine ite2 (fun hlt=>?_) (fun _=>?_)
    ·have hlt:a<ns.length:=of_decide_eq_true hlt
     obtain ⟨z,hz'⟩:∃ z,ns[a.toNat]?=some z:=⟨_,List.getElem?_eq_getElem (by omega)⟩
     have hat:atI (ns.map V.int) a=some (.int z):=by
      have e:(a:Int)=((a.toNat:Nat):Int):=by omega
      rw [e]
      refine atI_nat ?_
      rw [List.getElem?_map,hz'];rfl
     refine ⟨_,rfl,p,_,rfl,gcells h1,_,rfl,p,_,rfl,gat h1,c,_,_,_,rfl,rfl,SqL.of h2,hat,?_⟩
     refine ⟨_,rfl,p,_,rfl,gat h1,_,_,rfl,rfl,_,rfl,p,_,rfl,DPut.k (k:=Sum.inr "at") h1 small,?_⟩
     rw [pat]
     refine ⟨_,rfl,_,_,rfl,rfl,⟨by decide,by decide,by decide⟩,_,_,rfl,rfl,_,rfl,?_⟩
     refine ite2 (fun hge=>?_) (fun _=>?_)
     ·refine ⟨_,rfl,_,rfl,p,_,rfl,DPut.k (k:=Sum.inr "rest") upd_same small,?_⟩
      rw [prest]
      have hge:(10:Int) ^ 18≤z:=of_decide_eq_true hge
      exact hN _ _ ⟨a+1,z,sd,_,rfl,upd_same,But.upd.trans But.upd,by omega,by omega,by omega,s0,s1⟩
     ·refine ⟨_,rfl,p,_,rfl,gseed upd_same,_,_,rfl,rfl,.inr ⟨by decide,by decide⟩,_,rfl,_,_,rfl,rfl,.inr ⟨by decide,by decide⟩,_,_,rfl,rfl,_,_,rfl,rfl,_,_,rfl,rfl,(by show (0:Int)<2305843009213693951;decide),_,rfl,p,_,rfl,DPut.k (k:=Sum.inr "seed") upd_same small,?_⟩
      rw [pseed]
      exact hN _ _ ⟨a+1,r,_,_,rfl,upd_same,But.upd.trans But.upd,by omega,by omega,r0,Int.emod_nonneg _ (by decide),Int.emod_lt_of_pos _ (by decide)⟩
    ·exact hN _ _ ⟨a,r,sd,_,rfl,h1,But.refl,a0,a1,r0,s0,s1⟩
   ·exact hN _ _ ⟨a,r,sd,_,rfl,h1,But.refl,a0,a1,r0,s0,s1⟩
end
section
variable {P:Program} {w:World} {K:PySem.W.Frag} {mg:Str->Option Value} {base:Heap}
theorem Dr.dk {H:Hp} {p c:Addr} (d:Dr H p c):∃ kvs,H p=some (.dK kvs):=by
 obtain ⟨ns,a,r,s,h1,_⟩:=d.ex
 exact ⟨_,h1⟩
theorem Dr.seq {H H':Hp} {p c a:Addr} {xs:List V} (d:Dr H p c) (e:But p H H') (h:SqL K H a xs):SqL K H' a xs:=let ⟨_,hp⟩:=d.dk;e.seq hp h
theorem Dr.rep {H H':Hp} {p c:Addr} {v:V} {x:PyData} (d:Dr H p c) (e:But p H H') (h:Rep K H v x):Rep K H' v x:=let ⟨_,hp⟩:=d.dk;h.but e hp
theorem Dr.new {H:Hp} {p c q:Addr} {o:HO} (d:Dr H p c) (h:H q=none):Dr (upd H q o) p c:=d.mono (Same.new h)
def spOf (K:PySem.W.Frag):Sp:=fun vs H Q _=>∃ (p c q:Addr) (xs:List V),vs=[.ref p,.ref q]/\Dr H p c/\SqL K H q xs/\xs≠[]/\xs.length≤1000/\∀ (x:V) (H':Hp),x∈xs->Dr H' p c->But p H H'->Q x H'
theorem scO:FnScope ["_law_d","_law_things"] ["_law_d","_law_things"] (defScope (top 32)):=⟨rfl,rfl,rfl,by decide +kernel,rfl,by decide +kernel,by decide +kernel⟩
theorem ok_of {f fP:Addr} {fd fdP:FuncData} (F:Fun K "_law_of" "_law_of" (top 32) f fd) (T:Txt K mg) (DP:Def K mg "_law_pick" (top 31) ["_law_d","_law_many"] fP fdP):FnOk P w K mg base CX0 2 f fd ["_law_d","_law_things"] (spOf K):=by
 have GP:FnOk P w K mg base CX0 1 fP fdP ["_law_d","_law_many"] spPick:=ok_pick DP.F T
 refine F.ok scO (fun vs H Q E h=>?_) (fun cdv A outer s H vs Q E hr h=>?_)
 ·obtain ⟨p,c,q,xs,rfl,_⟩:=h
  rfl
 ·obtain ⟨p,c,q,xs,rfl,D,hq,hne,hl,k⟩:=h
  refine ⟨_,(pss_one (ps_ret (pe_ix ix_list (pv 1) (pe_call GP hr rfl DP.mg DP.F.kp DP.b .nil pass0 (pa_cons (pv 0) (pa_cons (pe_callB call_len_seq (by rfl) T.len bt_len (pa_cons (pv 1) pa_nil)) pa_nil))) (fun _ _=>rfl)))),?_⟩
  have hpos:0<xs.length:=List.length_pos_iff.mpr hne
  refine ⟨_,rfl,_,rfl,_,rfl,q,xs,rfl,(.inl hq),p,c,_,rfl,D,by omega,by omega,fun r H' r0 r1 D' bt=>?_⟩
  obtain ⟨j,rfl⟩:=Int.eq_ofNat_of_zero_le r0
  have hx:j<xs.length:=by omega
  exact ⟨q,xs,_,xs[j],rfl,rfl,D.seq bt hq,atI_nat (List.getElem?_eq_getElem hx),k _ _ (List.getElem_mem hx) D' bt⟩
def spS (K:PySem.W.Frag):Nat->Sp
 |0=>fun _ _ _ _=>False
 |n+1=>fun vs H Q _=>∃ (x y:V) (d:PyData),vs=[x,y]/\Rep K H x d/\Rep K H y d/\pdDep d≤n/\pdMax d≤100000/\∀ H':Hp,Same H H'->Q (.bl true) H'
theorem scS:FnScope ["_law_found","_law_due"] ["_law_found","_law_due"] (defScope (top 34)):=⟨rfl,rfl,rfl,by decide +kernel,rfl,by decide +kernel,by decide +kernel⟩
theorem bl_true {Q:VK} {v:V} {H:Hp} (h:Q (.bl true) H):Q (.bl (decide (v=v))) H:=by rw [decide_eq_true rfl];exact h
theorem ok_same {f:Addr} {fd:FuncData} (DS:Def K mg "_law_same" (top 34) ["_law_found","_law_due"] f fd) (T:Txt K mg) (n:Nat):FnOk P w K mg base CX0 n f fd ["_law_found","_law_due"] (spS K n):=by
 refine Nat.rec (motive:=fun n=>FnOk P w K mg base CX0 n f fd ["_law_found","_law_due"] (spS K n)) ⟨fun _ _ _ _ h=>h.elim,fun _ _ _ _ _ _ _ _ _ _ _ _ _ h=>h.elim⟩ (fun n GS=>?_) n
 refine DS.F.ok scS (fun vs H Q E h=>?_) (fun cdv A outer s H vs Q E hr h=>?_)
 ·obtain ⟨x,y,d,rfl,_⟩:=h
  rfl
 ·obtain ⟨x,y,d,rfl,hx,hy,hn,hm,k⟩:=h
  refine ⟨_,(pss_cons
 (ps_if (pt_cmpR op_isN (pv 1) pe_non (nomark _)) (pss_one
 (ps_ret (pe_cmpR op_isN (pv 0) pe_non (nomark _)))) pss_nil)
 (pss_cons
 (ps_if (PW.pt (pw_or (pt_val (pe_callB call_isT (by rfl) T.isinstance bt_isinstance (pa_cons (pv 1) (pa_cons (pe_ty rfl T.bool bt_bool) pa_nil)))) (pw_or1 (pt_val (pe_callB call_isT (by rfl) T.isinstance bt_isinstance (pa_cons (pv 0) (pa_cons (pe_ty rfl T.bool bt_bool) pa_nil))))))) (pss_one
 (ps_ret (pe_and (pe_callB call_isT (by rfl) T.isinstance bt_isinstance (pa_cons (pv 1) (pa_cons (pe_ty rfl T.bool bt_bool) pa_nil))) (pe_and (pe_callB call_isT (by rfl) T.isinstance bt_isinstance (pa_cons (pv 0) (pa_cons (pe_ty rfl T.bool bt_bool) pa_nil))) (pe_one (pe_cmpR op_eq (pv 0) (pv 1) (nomark _))))))) pss_nil)
 (pss_cons
 (ps_if (pt_val (pe_callB call_isT2 (by rfl) T.isinstance bt_isinstance (pa_cons (pv 1) (pa_cons (pe_tup (pa_cons (pe_ty rfl T.int bt_int) (pa_cons (pe_ty rfl T.str bt_str) pa_nil))) pa_nil)))) (pss_one
 (ps_ret (pe_and (pe_callB call_isT2 (by rfl) T.isinstance bt_isinstance (pa_cons (pv 0) (pa_cons (pe_tup (pa_cons (pe_ty rfl T.int bt_int) (pa_cons (pe_ty rfl T.str bt_str) pa_nil))) pa_nil))) (pe_and (pe_cmpR op_eq (pe_callB call_isT (by rfl) T.isinstance bt_isinstance (pa_cons (pv 0) (pa_cons (pe_ty rfl T.int bt_int) pa_nil))) (pe_callB call_isT (by rfl) T.isinstance bt_isinstance (pa_cons (pv 1) (pa_cons (pe_ty rfl T.int bt_int) pa_nil))) (nomark _)) (pe_one (pe_cmpR op_eq (pv 0) (pv 1) (nomark _))))))) pss_nil)
 (pss_cons
 (ps_if (PW.pt (pw_or (pt_cmpR op_ne (pe_callB call_isT (by rfl) T.isinstance bt_isinstance (pa_cons (pv 1) (pa_cons (pe_ty rfl T.list bt_list) pa_nil))) (pe_callB call_isT (by rfl) T.isinstance bt_isinstance (pa_cons (pv 0) (pa_cons (pe_ty rfl T.list bt_list) pa_nil))) (nomark _)) (pw_or1 (pt_cmpR op_ne (pe_callB call_isT (by rfl) T.isinstance bt_isinstance (pa_cons (pv 1) (pa_cons (pe_ty rfl T.tuple bt_tuple) pa_nil))) (pe_callB call_isT (by rfl) T.isinstance bt_isinstance (pa_cons (pv 0) (pa_cons (pe_ty rfl T.tuple bt_tuple) pa_nil))) (nomark _))))) (pss_one
 (ps_ret pe_bl)) pss_nil)
 (pss_one
 (ps_ret (pe_and (pe_cmpR op_eq (pe_callB call_len_seq (by rfl) T.len bt_len (pa_cons (pv 0) pa_nil)) (pe_callB call_len_seq (by rfl) T.len bt_len (pa_cons (pv 1) pa_nil)) (nomark _)) (pe_one (pe_callB (call_allB rfl) (by rfl) T.all bt_all (pa_cons (pe_comp (own:=["_law_k"]) (js:=[0,1]) (N':=["_law_k","_law_found","_law_due"]) (CompScope.of (osc:=defScope (top 34)) (N:=["_law_found","_law_due"]) rfl rfl ⟨rfl,by decide +kernel,by decide +kernel,by decide +kernel,rfl,by decide +kernel⟩) rfl (pi_range1 rfl T.range (pa_cons (pe_callB call_len_seq (by rfl) T.len bt_len (pa_cons (pv 1) pa_nil)) pa_nil)) (fun _ _ _ _ _=>(pg_name (i:=0) (show List.Nodup (["_law_k","_law_found","_law_due"]:List Str) by decide +kernel) rfl (Or.inl rfl) (Or.inr rfl))) (fun _ _ _ _ _=>pifs_nil) (fun _ _ _ _ _=>(pe_call GS hr rfl DS.mg DS.F.kp DS.b .nil pass0 (pa_cons (pe_ix (r:=rIx K) ix_seq (pv 1) (pv 0) (fun _ _=>rfl)) (pa_cons (pe_ix (r:=rIx K) ix_seq (pv 2) (pv 0) (fun _ _=>rfl)) pa_nil))))) pa_nil)))))))))),?_⟩
  have z2:2≤sizeLine:=by decide
  cases hx with
  | non=>
    cases hy
    refine ⟨_,rfl,rfl,_,rfl,ifT rfl ?_⟩
    exact ⟨_,rfl,rfl,k _ (Same.refl _)⟩
  | bl b=>
    cases hy
    refine ⟨_,rfl,rfl,_,rfl,ifF rfl ?_⟩
    refine ⟨_,rfl,_,_,_,_,rfl,(.bl b),rfl,_,rfl,ifT rfl (ifT rfl ?_)⟩
    exact ⟨_,rfl,_,_,_,_,rfl,(.bl b),rfl,_,rfl,ifT rfl ⟨_,rfl,_,_,_,_,rfl,(.bl b),rfl,_,rfl,ifT rfl ⟨_,rfl,_,rfl,rfl,bl_true (k _ (Same.refl _))⟩⟩⟩
  | int i=>
    cases hy
    refine ⟨_,rfl,rfl,_,rfl,ifF rfl ?_⟩
    refine ⟨_,rfl,_,_,_,_,rfl,(.int i),rfl,_,rfl,ifF rfl ?_⟩
    refine ⟨_,rfl,_,_,_,_,rfl,(.int i),rfl,_,rfl,ifF rfl ?_⟩
    refine ⟨_,rfl,z2,fun p hp=>⟨_,p,_,_,_,_,rfl,upd_same,.int i,rfl,_,rfl,ifT rfl ?_⟩⟩
    refine ⟨_,rfl,z2,fun p2 hp2=>⟨_,p2,_,_,_,_,rfl,upd_same,.int i,rfl,_,rfl,ifT rfl ?_⟩⟩
    refine ⟨_,rfl,_,_,_,_,rfl,.int i,rfl,_,rfl,_,_,_,_,rfl,.int i,rfl,rfl,_,rfl,?_⟩
    exact ifT rfl ⟨_,rfl,_,rfl,rfl,bl_true (k _ ((Same.new hp).trans (Same.new hp2)))⟩
  | str z=>
    cases hy
    refine ⟨_,rfl,rfl,_,rfl,ifF rfl ?_⟩
    refine ⟨_,rfl,_,_,_,_,rfl,(.str z),rfl,_,rfl,ifF rfl ?_⟩
    refine ⟨_,rfl,_,_,_,_,rfl,(.str z),rfl,_,rfl,ifF rfl ?_⟩
    refine ⟨_,rfl,z2,fun p hp=>⟨_,p,_,_,_,_,rfl,upd_same,.str z,rfl,_,rfl,ifT rfl ?_⟩⟩
    refine ⟨_,rfl,z2,fun p2 hp2=>⟨_,p2,_,_,_,_,rfl,upd_same,.str z,rfl,_,rfl,ifT rfl ?_⟩⟩
    refine ⟨_,rfl,_,_,_,_,rfl,.str z,rfl,_,rfl,_,_,_,_,rfl,.str z,rfl,rfl,_,rfl,?_⟩
    exact ifT rfl ⟨_,rfl,_,rfl,rfl,bl_true (k _ ((Same.new hp).trans (Same.new hp2)))⟩
  | tup g rs=>
    cases hy with
    | tup g2 rs2=>
      rename_i a1 xs1 ds a2 xs2
      refine ⟨_,rfl,rfl,_,rfl,ifF rfl ?_⟩
      refine ⟨_,rfl,_,_,_,_,rfl,(.tup g2 rs2),rfl,_,rfl,ifF rfl ?_⟩
      refine ⟨_,rfl,_,_,_,_,rfl,(.tup g rs),rfl,_,rfl,ifF rfl ?_⟩
      refine ⟨_,rfl,z2,fun p hp=>⟨_,p,_,_,_,_,rfl,upd_same,Rep.same (.tup g2 rs2) (Same.new hp),rfl,_,rfl,ifF rfl ?_⟩⟩
      have s1:Same H (upd H p (.tup [.ty "int",.ty "str"])):=Same.new hp
      refine ⟨_,rfl,_,_,_,_,rfl,(Rep.same (.tup g2 rs2) s1),rfl,_,rfl,_,_,_,_,rfl,(Rep.same (.tup g rs) s1),rfl,rfl,_,rfl,ifF rfl ?_⟩
      refine ⟨_,rfl,_,_,_,_,rfl,(Rep.same (.tup g2 rs2) s1),rfl,_,rfl,_,_,_,_,rfl,(Rep.same (.tup g rs) s1),rfl,rfl,_,rfl,ifF rfl ?_⟩
      refine ⟨_,rfl,_,_,rfl,.inr (s1.tup g),_,rfl,_,_,rfl,.inr (s1.tup g2),rfl,_,rfl,?_⟩
      have l1:=rs.length
      have l2:=rs2.length
      have hm':xs2.length≤100000:=by simp only [pdMax] at hm;omega
      have hl:xs1.length=xs2.length:=by omega
      generalize upd H p (.tup [.ty "int",.ty "str"])=H1 at s1 ⊢
      refine ifT (by rw [hl];simp) ?_
      obtain ⟨n,rfl⟩:∃ n',n=n'+1:=⟨n-1,by simp only [pdDep] at hn;omega⟩
      refine ⟨_,rfl,_,_,rfl,.inr (s1.tup g2),_,rfl,by omega,by omega,?_⟩
      refine comp_range (n:=xs2.length) (fun i ys σ' H'=>∃ (v:Option V),ys=(List.replicate i true).map V.bl/\σ'=[v,some _,some _]/\Same H1 H') (by exact Nat.le_trans hm' (by decide)) ⟨none,rfl,rfl,Same.refl _⟩ ?_ ?_
      ·rintro i ys σ' H' hi hys ⟨v,rfl,rfl,s2⟩ N hN
       obtain ⟨d1,e1,r1⟩:=rs.get' (i:=i) (x:=xs1[i]) (List.getElem?_eq_getElem (by omega))
       obtain ⟨d2,e2,r2⟩:=rs2.get' (i:=i) (x:=xs2[i]) (List.getElem?_eq_getElem hi)
       rw [e1] at e2
       cases e2
       have m1:=List.mem_of_getElem? e1
       have q1:=pdDep_le m1
       have q2:=pdMax_le m1
       have at1:atI xs1 (0+(i:Int))=some xs1[i]:=by rw [Int.zero_add];exact atI_nat (List.getElem?_eq_getElem (by omega))
       have at2:atI xs2 (0+(i:Int))=some xs2[i]:=by rw [Int.zero_add];exact atI_nat (List.getElem?_eq_getElem hi)
       refine ⟨_,rfl,_,rfl,.inr (.inl ⟨_,_,_,_,rfl,rfl,(s1.trans s2).tup g,at1,?_⟩)⟩
       refine ⟨_,rfl,_,rfl,.inr (.inl ⟨_,_,_,_,rfl,rfl,(s1.trans s2).tup g2,at2,?_⟩)⟩
       refine ⟨_,_,d1,rfl,r1.same (s1.trans s2),r2.same (s1.trans s2),?_,?_,fun H'' s3=>?_⟩
       ·simp only [pdDep] at hn;omega
       ·simp only [pdMax] at hm;omega
       exact hN _ _ _ (by simp) ⟨_,by rw [List.replicate_succ',List.map_append];rfl,rfl,s2.trans s3⟩
      ·rintro ys σ' H' hys ⟨v,rfl,rfl,s2⟩
       refine ⟨by rw [List.length_map,List.length_replicate];exact Nat.le_trans hm' (by decide),fun q hq=>⟨q,_,rfl,SqL.of upd_same,?_⟩⟩
       show Q (.bl ((List.replicate xs2.length true).all id)) _
       rw [show (List.replicate xs2.length true).all id=true by simp]
       exact k _ ((s1.trans s2).trans (Same.new hq))
  | lst g rs=>
    cases hy with
    | lst g2 rs2=>
      rename_i a1 xs1 ds a2 xs2
      refine ⟨_,rfl,rfl,_,rfl,ifF rfl ?_⟩
      refine ⟨_,rfl,_,_,_,_,rfl,(.lst g2 rs2),rfl,_,rfl,ifF rfl ?_⟩
      refine ⟨_,rfl,_,_,_,_,rfl,(.lst g rs),rfl,_,rfl,ifF rfl ?_⟩
      refine ⟨_,rfl,z2,fun p hp=>⟨_,p,_,_,_,_,rfl,upd_same,Rep.same (.lst g2 rs2) (Same.new hp),rfl,_,rfl,ifF rfl ?_⟩⟩
      have s1:Same H (upd H p (.tup [.ty "int",.ty "str"])):=Same.new hp
      refine ⟨_,rfl,_,_,_,_,rfl,(Rep.same (.lst g2 rs2) s1),rfl,_,rfl,_,_,_,_,rfl,(Rep.same (.lst g rs) s1),rfl,rfl,_,rfl,ifF rfl ?_⟩
      refine ⟨_,rfl,_,_,_,_,rfl,(Rep.same (.lst g2 rs2) s1),rfl,_,rfl,_,_,_,_,rfl,(Rep.same (.lst g rs) s1),rfl,rfl,_,rfl,ifF rfl ?_⟩
      refine ⟨_,rfl,_,_,rfl,.inl (s1.seq g),_,rfl,_,_,rfl,.inl (s1.seq g2),rfl,_,rfl,?_⟩
      have l1:=rs.length
      have l2:=rs2.length
      have hm':xs2.length≤100000:=by simp only [pdMax] at hm;omega
      have hl:xs1.length=xs2.length:=by omega
      generalize upd H p (.tup [.ty "int",.ty "str"])=H1 at s1 ⊢
      refine ifT (by rw [hl];simp) ?_
      obtain ⟨n,rfl⟩:∃ n',n=n'+1:=⟨n-1,by simp only [pdDep] at hn;omega⟩
      refine ⟨_,rfl,_,_,rfl,.inl (s1.seq g2),_,rfl,by omega,by omega,?_⟩
      refine comp_range (n:=xs2.length) (fun i ys σ' H'=>∃ (v:Option V),ys=(List.replicate i true).map V.bl/\σ'=[v,some _,some _]/\Same H1 H') (by exact Nat.le_trans hm' (by decide)) ⟨none,rfl,rfl,Same.refl _⟩ ?_ ?_
      ·rintro i ys σ' H' hi hys ⟨v,rfl,rfl,s2⟩ N hN
       obtain ⟨d1,e1,r1⟩:=rs.get' (i:=i) (x:=xs1[i]) (List.getElem?_eq_getElem (by omega))
       obtain ⟨d2,e2,r2⟩:=rs2.get' (i:=i) (x:=xs2[i]) (List.getElem?_eq_getElem hi)
       rw [e1] at e2
       cases e2
       have m1:=List.mem_of_getElem? e1
       have q1:=pdDep_le m1
       have q2:=pdMax_le m1
       have at1:atI xs1 (0+(i:Int))=some xs1[i]:=by rw [Int.zero_add];exact atI_nat (List.getElem?_eq_getElem (by omega))
       have at2:atI xs2 (0+(i:Int))=some xs2[i]:=by rw [Int.zero_add];exact atI_nat (List.getElem?_eq_getElem hi)
       refine ⟨_,rfl,_,rfl,.inl ⟨_,_,_,_,rfl,rfl,(s1.trans s2).seq g,at1,?_⟩⟩
       refine ⟨_,rfl,_,rfl,.inl ⟨_,_,_,_,rfl,rfl,(s1.trans s2).seq g2,at2,?_⟩⟩
       refine ⟨_,_,d1,rfl,r1.same (s1.trans s2),r2.same (s1.trans s2),?_,?_,fun H'' s3=>?_⟩
       ·simp only [pdDep] at hn;omega
       ·simp only [pdMax] at hm;omega
       exact hN _ _ _ (by simp) ⟨_,by rw [List.replicate_succ',List.map_append];rfl,rfl,s2.trans s3⟩
      ·rintro ys σ' H' hys ⟨v,rfl,rfl,s2⟩
       refine ⟨by rw [List.length_map,List.length_replicate];exact Nat.le_trans hm' (by decide),fun q hq=>⟨q,_,rfl,SqL.of upd_same,?_⟩⟩
       show Q (.bl ((List.replicate xs2.length true).all id)) _
       rw [show (List.replicate xs2.length true).all id=true by simp]
       exact k _ ((s1.trans s2).trans (Same.new hq))
end
def Lc (x:Str):Prop:=∀ c∈x.cps.toList,97≤c/\c≤122
structure Nm (x:Str):Prop where
 lo:1≤x.length
 hi:x.length≤8
 lc:Lc x
theorem Lc.app {x y:Str} (a:Lc x) (b:Lc y):Lc (x++y):=fun c hc=>by
 rw [Str.cps_append,Array.toList_append,List.mem_append] at hc
 exact hc.elim (a c) (b c)
theorem join_cps (sep:Str) (hs:sep.cps.toList=[]):∀ ys:List Str,(Str.join sep ys).cps.toList=(ys.map (·.cps.toList)).flatten
 |[]=>rfl
 |[x]=>by show x.cps.toList=_;simp
 | x::y::r=>by
   show (x++sep++Str.join sep (y::r)).cps.toList=_
   rw [Str.cps_append,Array.toList_append,Str.cps_append,Array.toList_append,hs,List.append_nil,join_cps sep hs (y::r),List.map_cons (l:=y::r),List.flatten_cons]
theorem txt_join (sep:Str) (ys:List Str):PySem.Txt.join sep ys=Str.join sep ys:=by
 show PySem.Builtin.Str.glued sep ys=_
 rw [PySem.StrLaws.glued_eq_join]
theorem len_cps (x:Str):x.length=x.cps.toList.length:=by simp [Str.length]
section
variable {P:Program} {w:World} {K:PySem.W.Frag} {mg:Str->Option Value} {base:Heap}
def spWord:Sp:=fun vs H Q _=>∃ (p dc:Addr),vs=[.ref p]/\Dr H p dc/\∀ (x:Str) (H':Hp),Nm x->Dr H' p dc->But p H H'->Q (.str x) H'
theorem scW:FnScope ["_law_d","_law_letters","_law_first","_law_size","_law_some"] ["_law_d"] (defScope (top 35)):=⟨rfl,rfl,rfl,by decide +kernel,rfl,by decide +kernel,by decide +kernel⟩
theorem letters_at {i:Int} {c:Nat} (h:atI ("abcdefghijklmnopqrstuvwxyz" : Str).cps.toList i=some c):97≤c/\c≤122:=by
 have:c∈("abcdefghijklmnopqrstuvwxyz" : Str).cps.toList:=by
  unfold atI at h
  obtain ⟨j,_,e⟩:=Option.bind_eq_some_iff.mp h
  exact List.mem_of_getElem? e
 have all:∀ c∈("abcdefghijklmnopqrstuvwxyz" : Str).cps.toList,97≤c/\c≤122:=by decide +kernel
 exact all c this
theorem ok_word {f fP fO:Addr} {fd fdP fdO:FuncData} (F:Fun K "_law_word" "_law_word" (top 35) f fd) (T:Txt K mg) (DP:Def K mg "_law_pick" (top 31) ["_law_d","_law_many"] fP fdP) (DO:Def K mg "_law_of" (top 32) ["_law_d","_law_things"] fO fdO) :
 FnOk P w K mg base CX0 3 f fd ["_law_d"] spWord:=by
 have GP:FnOk P w K mg base CX0 1 fP fdP ["_law_d","_law_many"] spPick:=ok_pick DP.F T
 have GO:FnOk P w K mg base CX0 2 fO fdO ["_law_d","_law_things"] (spOf K):=ok_of DO.F T DP
 refine F.ok scW (fun vs H Q E h=>?_) (fun cdv A outer s H vs Q E hr h=>?_)
 ·obtain ⟨p,dc,rfl,_⟩:=h
  rfl
 ·obtain ⟨p,dc,rfl,D,k⟩:=h
  have hr1:Room 1 _:=hr.mono (by decide)
  refine ⟨_,(pss_cons
 (ps_set (i:=1) scW.nd rfl (Or.inr rfl) pe_str)
 (pss_cons
 (ps_set (i:=2) scW.nd rfl (Or.inl rfl) (pe_call GO hr rfl DO.mg DO.F.kp DO.b .nil pass0 (pa_cons (pv 0) (pa_cons (pe_lst (pa_cons pe_str (pa_cons pe_str (pa_cons pe_str (pa_cons pe_str (pa_cons pe_str pa_nil)))))) pa_nil))))
 (pss_cons
 (ps_set (i:=3) scW.nd rfl (Or.inl rfl) (pe_op op_add pe_int (pe_call GP hr1 rfl DP.mg DP.F.kp DP.b .nil pass0 (pa_cons (pv 0) (pa_cons (pe_op op_sub pe_int (pe_callB call_len_str (by rfl) T.len bt_len (pa_cons (pv 2) pa_nil))) pa_nil)))))
 (pss_cons
 (ps_set (i:=4) scW.nd rfl (Or.inl rfl) (pe_bm PySem.F.plainAttrs_str PySem.F.slot_str_join PySem.F.type_str_join mt_join pe_str (pa_cons (pe_comp (own:=["_law_k"]) (js:=[1,0]) (N':=["_law_k","_law_letters","_law_d"]) (CompScope.of (osc:=defScope (top 35)) (N:=["_law_d","_law_letters","_law_first","_law_size","_law_some"]) rfl rfl ⟨rfl,by decide +kernel,by decide +kernel,by decide +kernel,rfl,by decide +kernel⟩) rfl (pi_range1 rfl T.range (pa_cons (pv 3) pa_nil)) (fun _ _ _ _ _=>(pg_name (i:=0) (show List.Nodup (["_law_k","_law_letters","_law_d"]:List Str) by decide +kernel) rfl (Or.inl rfl) (Or.inr rfl))) (fun _ _ _ _ _=>pifs_nil) (fun _ _ _ _ _=>(pe_ix (r:=rIxS) ix_str (pv 1) (pe_call GP hr1 rfl DP.mg DP.F.kp DP.b .nil pass0 (pa_cons (pv 2) (pa_cons pe_int pa_nil))) (fun _ _=>rfl)))) pa_nil)))
 (pss_one
 (ps_ret (pe_ix ix_list (pe_lst (pa_cons (pe_op op_add_str (pv 2) (pv 4)) (pa_cons (pe_op op_add_str (pv 4) (pv 2)) pa_nil))) (pe_call GP hr1 rfl DP.mg DP.F.kp DP.b .nil pass0 (pa_cons (pv 0) (pa_cons pe_int pa_nil))) (fun _ _=>rfl)))))))),?_⟩
  refine ⟨_,rfl,(show 5≤sizeLine by decide),fun q hq=>?_⟩
  refine ⟨p,dc,q,_,rfl,D.new hq,SqL.of upd_same,by simp,by simp,fun x H1 hx D1 b1=>?_⟩
  obtain ⟨z,rfl,hz,lz⟩:∃ z:Str,x=.str z/\z.length≤7/\Lc z:=by
   simp only [List.mem_cons,List.not_mem_nil,or_false] at hx
   rcases hx with rfl|rfl|rfl|rfl|rfl
   all_goals exact ⟨_,rfl,by decide +kernel,by unfold Lc;decide +kernel⟩
  refine ⟨_,rfl,_,rfl,z,rfl,Nat.le_trans hz (by decide),_,_,rfl,rfl,p,dc,_,rfl,D1,by omega,by omega,fun r H2 r0 r1 D2 b2=>?_⟩
  refine ⟨_,_,rfl,rfl,?_⟩
  refine ⟨rfl,_,rfl,_,rfl,by omega,by omega,?_⟩
  refine comp_range (n:=(1+r).toNat) (fun i ys σ' H'=>∃ (cs:List Str) (v:Option V),ys=cs.map V.str/\σ'=[v,some (.str "abcdefghijklmnopqrstuvwxyz"),some (.ref p)]/\Dr H' p dc/\But p H2 H'/\∀ c∈cs,c.length=1/\Lc c) (Nat.le_trans (show (1+r).toNat≤8 by omega) (by decide)) ⟨[],none,rfl,rfl,D2,But.refl,fun _ h=>nomatch h⟩ ?_ ?_
  ·rintro i ys σ' H' hi hys ⟨cs,v,rfl,rfl,D3,b3,hc⟩ N hN
   refine ⟨_,rfl,_,rfl,p,dc,_,rfl,D3,by decide,by decide,fun r' H4 r0' r1' D4 b4=>?_⟩
   obtain ⟨j,rfl⟩:=Int.eq_ofNat_of_zero_le r0'
   obtain ⟨c,hcj⟩:∃ c,("abcdefghijklmnopqrstuvwxyz" : Str).cps.toList[j]?=some c:=⟨_,List.getElem?_eq_getElem (by show j<26;omega)⟩
   have hat:atI ("abcdefghijklmnopqrstuvwxyz" : Str).cps.toList (j:Int)=some c:=atI_nat hcj
   refine ⟨_,_,c,rfl,rfl,(show 26≤sizeLine by decide),hat,?_⟩
   refine hN _ _ _ (by simpa using hys) ⟨cs++[⟨#[c]⟩],_,by simp,rfl,D4,b3.trans b4,fun c' hc'=>?_⟩
   rcases List.mem_append.mp hc' with hc'|hc'
   ·exact hc c' hc'
   ·obtain rfl:c'=⟨#[c]⟩:=by simpa using hc'
    refine ⟨rfl,fun x hx=>?_⟩
    obtain rfl:x=c:=by simpa using hx
    exact letters_at hat
  ·rintro ys σ' H' hys ⟨cs,v,rfl,rfl,D3,b3,hc⟩
   rw [List.length_map] at hys
   refine ⟨by rw [List.length_map,hys];exact Nat.le_trans (show (1+r).toNat≤8 by omega) (by decide),fun q2 hq2=>?_⟩
   have hsum:(cs.map (·.length)).sum=cs.length:=by
    clear hys
    induction cs with
    |nil=>rfl
    |cons c t ih=>rw [List.map_cons,List.sum_cons,ih fun d hd=>hc d (List.mem_cons_of_mem _ hd),(hc c List.mem_cons_self).1,List.length_cons,Nat.add_comm]
   refine ⟨_,q2,cs,rfl,rfl,SqL.of upd_same,by rw [hsum,show (Str.ofString "").length=0 from rfl];omega,?_⟩
   rw [txt_join]
   have jl:(Str.join (Str.ofString "") cs).length=cs.length:=by
    rw [len_cps,join_cps _ rfl,List.length_flatten,List.map_map,← hsum]
    congr 1
   have jc:Lc (Str.join (Str.ofString "") cs):=fun x hx=>by
    rw [join_cps _ rfl] at hx
    obtain ⟨l,hl,hxl⟩:=List.mem_flatten.mp hx
    obtain ⟨c,hcm,rfl⟩:=List.mem_map.mp hl
    exact (hc c hcm).2 x hxl
   generalize Str.join (Str.ofString "") cs=js at jl jc
   have hj8:js.length+z.length≤8/\1≤js.length:=by omega
   refine ⟨_,rfl,_,rfl,_,_,rfl,rfl,Nat.le_trans (show z.length+js.length≤8 by omega) (by decide),_,rfl,_,rfl,_,_,rfl,rfl,Nat.le_trans (show js.length+z.length≤8 by omega) (by decide),(show 2≤sizeLine by decide),fun q3 hq3=>?_⟩
   have D4:Dr _ p dc:=(D3.new (o:=.lst (cs.map V.str)) hq2).new (o:=.lst [.str (z++js),.str (js++z)]) hq3
   refine ⟨_,rfl,p,dc,_,rfl,D4,by decide,by decide,fun r' H5 r0' r1' D5 b5=>?_⟩
   have nm1:Nm (z++js):=⟨by rw [Str.length_append];omega,by rw [Str.length_append];omega,lz.app jc⟩
   have nm2:Nm (js++z):=⟨by rw [Str.length_append];omega,by rw [Str.length_append];omega,jc.app lz⟩
   have bt:But p H H5:=((((But.new hq).trans b1).trans b2).trans b3).trans (((But.new hq2).trans (But.new hq3)).trans b5)
   have hq5:SqL K H5 q3 [.str (z++js),.str (js++z)]:=D4.seq b5 (SqL.of upd_same)
   by_cases h0:r'=0
   ·subst h0
    exact ⟨_,_,_,_,rfl,rfl,hq5,rfl,k _ _ nm1 D5 bt⟩
   ·obtain rfl:r'=1:=by omega
    exact ⟨_,_,_,_,rfl,rfl,hq5,rfl,k _ _ nm2 D5 bt⟩
def spWords (K:PySem.W.Frag):Sp:=fun vs H Q _=>∃ (p dc:Addr) (m:Int),vs=[.ref p,.int m]/\Dr H p dc/\0≤m/\m≤60/\∀ (q:Addr) (ys:List Str) (H':Hp),H' q=some (.lst (ys.map V.str))->H q=none->(ys.length:Int)=m->(∀ y∈ys,Nm y)->ys.Nodup->Dr H' p dc->But p H H'->Q (.ref q) H'
theorem scWs:FnScope ["_law_d","_law_many","_law_found","_law_k","_law_word_here","_law_step"] ["_law_d","_law_many"] (defScope (top 36)):=⟨rfl,rfl,rfl,by decide +kernel,rfl,by decide +kernel,by decide +kernel⟩
def wd (t:Nat):Str:=⟨#[97+t % 8,113+t / 8 % 8]⟩
theorem wd_nm (t:Nat):Nm (wd t):=⟨by show 1≤2;decide,by show 2≤8;decide,fun c hc=>by
 have:c=97+t % 8∨c=113+t / 8 % 8:=by simpa [wd] using hc
 omega⟩
theorem wd_inj {k s s':Nat} (h:wd (k+s)=wd (k+s')) (h1:s<64) (h2:s'<64):s=s':=by
 have e:(#[97+(k+s) % 8,113+(k+s) / 8 % 8]:Array Nat)=#[97+(k+s') % 8,113+(k+s') / 8 % 8]:=congrArg Str.cps h
 have e1:97+(k+s) % 8=97+(k+s') % 8/\113+(k+s) / 8 % 8=113+(k+s') / 8 % 8:=by simpa using congrArg Array.toList e
 omega
theorem sub_len {α:Type} [DecidableEq α]:∀ {l ys:List α},l.Nodup->(∀ x∈l,x∈ys)->l.length≤ys.length
 |[],_,_,_=>Nat.zero_le _
 | a::l,ys,nd,hs=>by
   obtain ⟨n1,n2⟩:=List.nodup_cons.mp nd
   have ha:=hs a List.mem_cons_self
   have q:=sub_len (ys:=ys.erase a) n2 fun x hx=>(List.mem_erase_of_ne (by intro z;exact n1 (z ▸ hx))).mpr (hs x (List.mem_cons_of_mem _ hx))
   rw [List.length_erase_of_mem ha] at q
   have:=List.length_pos_of_mem ha
   rw [List.length_cons];omega
theorem nd_map {α β:Type} {f:α->β}:∀ {l:List α},l.Nodup->(∀ a∈l,∀ b∈l,f a=f b->a=b)->(l.map f).Nodup
 |[],_,_=>List.nodup_nil
 | a::l,nd,h=>by
   obtain ⟨n1,n2⟩:=List.nodup_cons.mp nd
   rw [List.map_cons]
   refine List.nodup_cons.mpr ⟨fun m=>?_,nd_map n2 fun x hx y hy=>h x (List.mem_cons_of_mem _ hx) y (List.mem_cons_of_mem _ hy)⟩
   obtain ⟨b,hb,e⟩:=List.mem_map.mp m
   exact n1 (h b (List.mem_cons_of_mem _ hb) a List.mem_cons_self e ▸ hb)
theorem wd_new {k:Nat} {ys:List Str} (hl:ys.length<64) (h:∀ s,s<64->wd (k+s)∈ys):False:=by
 have nd:((List.range 64).map fun s=>wd (k+s)).Nodup:=nd_map List.nodup_range fun a ha b hb e=>wd_inj e (List.mem_range.mp ha) (List.mem_range.mp hb)
 have q:=sub_len nd fun x hx=>by
  obtain ⟨s,hs,rfl⟩:=List.mem_map.mp hx
  exact h s (List.mem_range.mp hs)
 rw [List.length_map,List.length_range] at q
 omega
theorem ok_words {f fP fO fW:Addr} {fd fdP fdO fdW:FuncData} (F:Fun K "_law_words" "_law_words" (top 36) f fd) (T:Txt K mg) (DP:Def K mg "_law_pick" (top 31) ["_law_d","_law_many"] fP fdP) (DO:Def K mg "_law_of" (top 32) ["_law_d","_law_things"] fO fdO)
 (DW:Def K mg "_law_word" (top 35) ["_law_d"] fW fdW):FnOk P w K mg base CX0 4 f fd ["_law_d","_law_many"] (spWords K):=by
 have GW:FnOk P w K mg base CX0 3 fW fdW ["_law_d"] spWord:=ok_word DW.F T DP DO
 refine F.ok scWs (fun vs H Q E h=>?_) (fun cdv A outer s H vs Q E hr h=>?_)
 ·obtain ⟨p,dc,m,rfl,_⟩:=h
  rfl
 ·obtain ⟨p,dc,m,rfl,D,m0,m1,k⟩:=h
  refine ⟨_,(pss_cons
 (ps_set (i:=2) scWs.nd rfl (Or.inl rfl) (pe_lst pa_nil))
 (pss_cons
 (ps_for PassesOwn.never rfl (pi_range1 rfl T.range (pa_cons (pv 1) pa_nil)) (pg_name (i:=3) scWs.nd rfl (Or.inl rfl)) (pss_cons
 (ps_set (i:=4) scWs.nd rfl (Or.inl rfl) (pe_call GW hr rfl DW.mg DW.F.kp DW.b .nil pass0 (pa_cons (pv 0) pa_nil)))
 (pss_cons
 (ps_for PassesOwn.never rfl (pi_range1 rfl T.range (pa_cons pe_int pa_nil)) (pg_name (i:=5) scWs.nd rfl (Or.inl rfl)) (pss_one
 (ps_if (pt_cmpR op_in_seq (pv 4) (pv 2) rfl) (pss_one
 (ps_set (i:=4) scWs.nd rfl (Or.inl rfl) (pe_op op_add_str (pe_ix ix_str pe_str (pe_op op_mod (pe_op op_add (pv 3) (pv 5)) pe_int) (fun _ _=>rfl)) (pe_ix ix_str pe_str (pe_op op_mod (pe_op op_fdiv (pe_op op_add (pv 3) (pv 5)) pe_int) pe_int) (fun _ _=>rfl))))) pss_nil)))
 (pss_one
 (ps_expr (pe_bm PySem.F.plainAttrs_list PySem.F.slot_list_append PySem.F.type_list_append mt_append (pv 2) (pa_cons (pv 4) pa_nil)))))))
 (pss_one
 (ps_ret (pv 2))))),?_⟩
  refine ⟨(show 0≤sizeLine by decide),fun q hq=>?_⟩
  refine ⟨_,rfl,m,rfl,by omega,by omega,?_⟩
  refine for_range (n:=m.toNat) (fun i σ H1=>∃ (ys:List Str) (a b c:Option V),σ=[some (.ref p),some (.int m),some (.ref q),a,b,c]/\H1 q=some (.lst (ys.map V.str))/\ys.length=i/\(∀ y∈ys,Nm y)/\ys.Nodup/\Dr H1 p dc/\But p H H1)
   ⟨[],none,none,none,rfl,upd_same,rfl,(fun _ h=>by cases h),List.nodup_nil,D.new hq,But.new hq⟩ ?_ ?_
  ·rintro i σ H1 hi ⟨ys,a,b,c,rfl,e1,hl,hy,nd,D1,b1⟩
   refine ⟨_,rfl,p,dc,rfl,D1,fun x H2 nx D2 b2=>?_⟩
   have e2:H2 q=some (.lst (ys.map V.str)):=b2 q _ e1 (D1.ne e1 (by intro kvs z;cases z))
   refine ⟨_,rfl,by decide,by decide,?_⟩
   refine for_range (n:=64) (fun j σ H3=>∃ (z:Str) (c:Option V),σ=[some (.ref p),some (.int m),some (.ref q),some (.int (0+(i:Int))),some (.str z),c]/\Nm z/\H3=H2/\(z∉ys∨∀ s,s<j->wd (i+s)∈ys)) ⟨x,_,rfl,nx,rfl,.inr fun s hs=>absurd hs (Nat.not_lt_zero _)⟩ ?_ ?_
   ·rintro j σ H3 hj ⟨z,c,rfl,nz,rfl,hz⟩
    refine ⟨_,rfl,_,rfl,q,_,rfl,.inl (SqL.of e2),rfl,?_,_,rfl,?_⟩
    ·rw [List.all_eq_true]
     intro v hv
     obtain ⟨y,_,rfl⟩:=List.mem_map.mp hv
     rfl
    ·have hin:inV (.str z) (ys.map V.str)=true↔z∈ys:=by
      unfold inV
      rw [List.any_map,List.any_eq_true]
      constructor
      ·rintro ⟨y,hy1,hy2⟩
       have:y=z:=by simpa [eqV] using hy2
       exact this ▸ hy1
      ·intro hz'
       exact ⟨z,hz',by simp [eqV]⟩
     refine ite2 (fun hc=>?_) (fun hc=>⟨z,_,rfl,nz,rfl,.inl fun hz'=>hc (hin.mpr hz')⟩)
     have hz1:=hin.mp hc
     have hz2:∀ s,s<j->wd (i+s)∈ys:=hz.elim (fun n=>absurd hz1 n) id
     have u1:(0+(i:Int)+(0+(j:Int))) % 8=(((i+j) % 8:Nat):Int):=by omega
     have u2:(0+(i:Int)+(0+(j:Int))) / 8 % 8=(((i+j) / 8 % 8:Nat):Int):=by omega
     have h1:("abcdefgh" : Str).cps.toList[(i+j) % 8]?=some (97+(i+j) % 8):=by
      have:=Nat.mod_lt (i+j) (show 0<8 by decide)
      generalize (i+j) % 8=m8 at this
      revert m8;decide +kernel
     have h2:("qrstuvwx" : Str).cps.toList[(i+j) / 8 % 8]?=some (113+(i+j) / 8 % 8):=by
      have:=Nat.mod_lt ((i+j) / 8) (show 0<8 by decide)
      generalize (i+j) / 8 % 8=m8 at this
      revert m8;decide +kernel
     refine ⟨_,rfl,_,rfl,_,_,rfl,rfl,_,_,rfl,rfl,(by show (0:Int)<8;decide),_,_,_,rfl,rfl,(show 8≤sizeLine by decide),(by rw [u1];exact atI_nat h1),?_⟩
     refine ⟨_,rfl,_,rfl,_,_,rfl,rfl,_,_,rfl,rfl,⟨by decide,by decide⟩,_,_,rfl,rfl,(by show (0:Int)<8;decide),_,_,_,rfl,rfl,(show 8≤sizeLine by decide),(by rw [u2];exact atI_nat h2),?_⟩
     refine ⟨_,_,rfl,rfl,(show 1+1≤sizeLine by decide),wd (i+j),_,rfl,wd_nm _,rfl,?_⟩
     by_cases hw:wd (i+j)∈ys
     ·refine .inr fun s hs=>?_
      by_cases hsj:s=j
      ·rw [hsj];exact hw
      ·exact hz2 s (by omega)
     ·exact .inl hw
   ·rintro σ H3 ⟨z,c,rfl,nz,rfl,hz⟩
    have znew:z∉ys:=hz.elim id fun h=>(wd_new (by omega) h).elim
    refine ⟨_,rfl,.inl ⟨rfl,_,SqL.of e2⟩,_,rfl,q,_,_,rfl,rfl,e2,by rw [List.length_map];exact small1000 (by omega),?_⟩
    have nqc:q≠dc:=by
     obtain ⟨xs,e⟩:=D.cell
     exact (ne_of_none e hq).symm
    have nqp:q≠p:=D2.ne e2 (by intro kvs z;cases z)
    refine ⟨ys++[z],_,_,_,rfl,by rw [upd_same];simp,by simp [hl],fun y hy'=>(List.mem_append.mp hy').elim (hy y) (fun h=>by rw [List.mem_singleton.mp h];exact nz),nd_snoc nd znew,D2.put nqp nqc,fun b o e hb=>?_⟩
    rw [upd_ne (ne_of_none e hq)]
    exact (b1.trans b2) b o e hb
  ·rintro σ H1 ⟨ys,a,b,c,rfl,e1,hl,hy,nd,D1,b1⟩
   exact ⟨_,rfl,k q ys H1 e1 hq (by omega) hy nd D1 b1⟩
end
end Cm
namespace Cm
open PySem L2 PySem.W
def topA (i:Nat):Stmt:=PySem.Challenge.pw_lanescribe_k23_tallies_refused.main.body.getD i (.Pass ⟨0,0,0,0⟩)
def Caught (K:Frag) (cB cS cM Ce:Addr) (fs:List (Str×V)) (wd:Str):Prop:=
 (mroIn K Ce (.ref cB)=some true/\XGet K Ce "at"/\∃ n:Int,fs.lookup ("at" : Str)=some (.int n)/\n.natAbs.log2<1920/\("badvalue " : Str).length+(toString n:Str).length≤sizeLine/\wd=("badvalue " : Str)++(toString n:Str))∨
 (mroIn K Ce (.ref cB)=some false/\mroIn K Ce (.ref cS)=some true/\XGet K Ce "word"/\fs.lookup ("word" : Str)=some (.str wd))∨
 (mroIn K Ce (.ref cB)=some false/\mroIn K Ce (.ref cS)=some false/\mroIn K Ce (.ref cM)=some true/\XGet K Ce "word"/\fs.lookup ("word" : Str)=some (.str wd))
section
variable {P:Program} {w:World} {K:PySem.W.Frag} {mg:Str->Option Value} {base:Heap}
def spAsk (P:Program) (w:World) (K:PySem.W.Frag) (mg:Str->Option Value) (base:Heap) (k:Nat) (cB cS cM:Addr):Shared->List Env->Sp:=fun s outer vs H Q _=>∃ g Qv Ev,vs=[.ref g]/\Thunk P w K mg base s.heap H (frs outer) k g H Qv Ev/\
 (∀ v H',Qv v H'->∀ l,H' l=none->Q (.ref l) (upd H' l (.lst [.str "",v])))/\
 ∀ cls dd H',Ev cls dd H'->∃ Ce da fs wd,cls=.ref Ce/\dd=some da/\H' da=some (exD da fs)/\Caught K cB cS cM Ce fs wd/\∀ l,H' l=none->Q (.ref l) (upd H' l (.lst [.str wd,.non]))
structure TxtA (K:PySem.W.Frag) (mg:Str->Option Value) (cB cS cM:Addr):Prop where
 str:mg "str" = none
 bv:mg "BadValue" = some (.ref cB)
 se:mg "ScribeError" = some (.ref cS)
 mi:mg "Missing" = some (.ref cM)
 xb:∃ B n,XCls K cB B n
 xs:∃ B n,XCls K cS B n
 xm:∃ B n,XCls K cM B n
theorem scAsk:FnScope ["_law_ask_here","_law_told","_law_word_here","e"] ["_law_ask_here"] (defScope (topA 38)):=⟨rfl,rfl,rfl,by decide +kernel,rfl,by decide +kernel,by decide +kernel⟩
theorem ok_ask {CX:CXT} {f cB cS cM:Addr} {fd:FuncData} {k:Nat} (F:Fun K "_law_ask" "_law_ask" (topA 38) f fd) (T:TxtA K mg cB cS cM):FnOkS P w K mg base CX (k+1) f fd ["_law_ask_here"] (spAsk P w K mg base k cB cS cM):=by
 obtain ⟨B1,n1,x1⟩:=T.xb
 obtain ⟨B2,n2,x2⟩:=T.xs
 obtain ⟨B3,n3,x3⟩:=T.xm
 refine F.okS scAsk (fun s outer vs H Q E h=>?_) (fun cdv A outer s H vs Q E hr h=>?_)
 ·obtain ⟨g,Qv,Ev,rfl,_⟩:=h
  rfl
 ·obtain ⟨g,Qv,Ev,rfl,Th,hv,he⟩:=h
  refine ⟨_,(pss_cons (ps_set (i:=1) scAsk.nd rfl (Or.inl rfl) pe_non)
   (pss_cons (ps_set (i:=2) scAsk.nd rfl (Or.inl rfl) pe_str)
   (pss_cons (ps_try rfl rfl rfl (psx_thunk (k:=k) (i:=1) (j:=0) scAsk.nd rfl (Or.inl rfl) rfl (Or.inl rfl) rfl hr)
    (ph_cons (i:=3) (C:=cB) (B:=B1) (newId:=n1) scAsk.nd rfl rfl (fun ea ps=>pe_glob (by rfl) T.bv rfl) (fun ea oe ps Ce dd hm hc hd hvs=>pss_one (ps_set (i:=2) scAsk.nd rfl (Or.inl rfl) (pe_op op_add_str pe_str (pe_callTy call_str_int (by rfl) T.str bt_str (pa_cons (pe_xatH hm hc hd hvs (pv 3)) pa_nil)))))
    (ph_cons (i:=3) (C:=cS) (B:=B2) (newId:=n2) scAsk.nd rfl rfl (fun ea ps=>pe_glob (by rfl) T.se rfl) (fun ea oe ps Ce dd hm hc hd hvs=>pss_one (ps_set (i:=2) scAsk.nd rfl (Or.inl rfl) (pe_xatH hm hc hd hvs (pv 3))))
    (ph_cons (i:=3) (C:=cM) (B:=B3) (newId:=n3) scAsk.nd rfl rfl (fun ea ps=>pe_glob (by rfl) T.mi rfl) (fun ea oe ps Ce dd hm hc hd hvs=>pss_one (ps_set (i:=2) scAsk.nd rfl (Or.inl rfl) (pe_xatH hm hc hd hvs (pv 3))))
    ph_nil))))
   (pss_one (ps_ret (pe_lst (pa_cons (pv 2) (pa_cons (pv 1) pa_nil)))))))),?_⟩
  have small:∀ x y:V,[x,y].length≤sizeLine:=fun x y=>by rw [sizeLine_eq];show 2≤16777216;decide
  refine ⟨g,Qv,Ev,rfl,Th,fun v H' q=>?_,fun cls dd H' q=>?_⟩
  ·exact ⟨_,rfl,_,rfl,small _ _,fun p hp=>hv v H' q p hp⟩
  ·obtain ⟨Ce,da,fs,wd,rfl,rfl,hd,hc,hq⟩:=he _ _ _ q
   refine ⟨Ce,rfl,x1,?_⟩
   rcases hc with ⟨m1,G,n,l,z,zz,rfl⟩|⟨m1,m2,G,l⟩|⟨m1,m2,m3,G,l⟩
   ·refine ⟨true,m1,fun ea=>?_⟩
    exact ⟨_,rfl,da,fs,_,rfl,rfl,hd,G,l,n,rfl,z,_,_,rfl,rfl,zz,_,rfl,_,rfl,small _ _,fun p hp=>hq p hp⟩
   ·refine ⟨false,m1,x2,true,m2,fun ea=>?_⟩
    exact ⟨_,rfl,da,fs,_,rfl,rfl,hd,G,l,_,rfl,_,rfl,small _ _,fun p hp=>hq p hp⟩
   ·refine ⟨false,m1,x2,false,m2,x3,true,m3,fun ea=>?_⟩
    exact ⟨_,rfl,da,fs,_,rfl,rfl,hd,G,l,_,rfl,_,rfl,small _ _,fun p hp=>hq p hp⟩
end
end Cm
namespace Cm
open PySem L2
theorem uni:∀ c<128,Unicode.isAlpha c=(decide (65≤c/\c≤90) || decide (97≤c/\c≤122))/\Unicode.isLower c=decide (97≤c/\c≤122)/\Unicode.isUpper c=decide (65≤c/\c≤90)/\Unicode.isTitle c=false:=by decide +kernel
def nameB (x:Str):Bool:=decide (x.length≤8) && (x.cps.all (·<128) && ((x.length > 0 && x.cps.all Unicode.isAlpha) && (x.cps.any Unicode.isLower && !x.cps.any fun c=>Unicode.isUpper c || Unicode.isTitle c)))
theorem nameB_iff (x:Str):nameB x=true↔Nm x:=by
 unfold nameB
 simp only [Bool.and_eq_true,decide_eq_true_eq,Bool.not_eq_true',← Array.all_toList,← Array.any_toList,List.all_eq_true,List.any_eq_true,List.any_eq_false]
 constructor
 ·rintro ⟨h8,ha,⟨h0,hal⟩,⟨c0,hc0,hl0⟩,hu⟩
  refine ⟨h0,h8,fun c hc=>?_⟩
  have c1:c<128:=ha c hc
  obtain ⟨u1,u2,u3,u4⟩:=uni c c1
  have a1:=hal c hc
  have a2:=hu c hc
  rw [u1] at a1
  rw [u3,u4] at a2
  simp at a1 a2
  omega
 ·rintro ⟨h0,h8,lc⟩
  have cc:∀ c∈x.cps.toList,c<128/\97≤c/\c≤122:=fun c hc=>⟨by have:=lc c hc;omega,lc c hc⟩
  refine ⟨h8,fun c hc=>(cc c hc).1,⟨h0,fun c hc=>?_⟩,?_,fun c hc=>?_⟩
  ·rw [(uni c (cc c hc).1).1];simp [(cc c hc).2]
  ·rw [len_cps] at h0
   obtain ⟨c,hc⟩:=List.exists_mem_of_length_pos (show 0<x.cps.toList.length by omega)
   exact ⟨c,hc,by rw [(uni c (cc c hc).1).2.1];simp [(cc c hc).2]⟩
  ·rw [(uni c (cc c hc).1).2.2.1,(uni c (cc c hc).1).2.2.2]
   have:=(cc c hc).2
   simp;omega
structure TxtK (mg:Str->Option Value):Prop where
 ml:∃ t,mg "MOST_LETTERS" = some (.int 8 t)
 lim:∃ t,mg "LIMIT" = some (.int 999999 t)
section
variable {P:Program} {w:World} {K:PySem.W.Frag} {mg:Str->Option Value} {base:Heap}
def spIsName:Sp:=fun vs H Q _=>∃ x:Str,vs=[.str x]/\x.length≤sizeLine/\Q (.bl (nameB x)) H
theorem scIN:FnScope ["text"] ["text"] (defScope (top 11)):=⟨rfl,rfl,rfl,by decide +kernel,rfl,by decide +kernel,by decide +kernel⟩
theorem ok_isname {f:Addr} {fd:FuncData} (F:Fun K "is_name" "is_name" (top 11) f fd) (T:Txt K mg) (TK:TxtK mg):FnOk P w K mg base CX0 1 f fd ["text"] spIsName:=by
 refine F.ok scIN (fun vs H Q E h=>?_) (fun cdv A outer s H vs Q E hr h=>?_)
 ·obtain ⟨x,rfl,_⟩:=h
  rfl
 ·obtain ⟨x,rfl,hl,k⟩:=h
  obtain ⟨t8,m8⟩:=TK.ml
  refine ⟨_,(pss_one
 (ps_ret (pe_and (pe_cmpR op_le (pe_callB call_len_str (by rfl) T.len bt_len (pa_cons (pv 0) pa_nil)) (pe_glob (v:=.int 8) rfl m8 ⟨_,rfl⟩) (nomark _)) (pe_and (pe_bm0 PySem.F.plainAttrs_str PySem.F.slot_str_isascii PySem.F.type_str_isascii mt_isascii (pv 0)) (pe_and (pe_bm0 PySem.F.plainAttrs_str PySem.F.slot_str_isalpha PySem.F.type_str_isalpha mt_isalpha (pv 0)) (pe_one (pe_bm0 PySem.F.plainAttrs_str PySem.F.slot_str_islower PySem.F.type_str_islower mt_islower (pv 0)))))))),?_⟩
  refine ⟨_,rfl,x,rfl,hl,_,_,rfl,rfl,_,rfl,?_⟩
  unfold nameB at k
  by_cases h8:x.length≤8
  ·refine ifT (by simp;omega) ⟨_,rfl,rfl,x,rfl,rfl,_,rfl,?_⟩
   rw [decide_eq_true h8,Bool.true_and] at k
   cases h1:x.cps.all (·<128) with
   |false=>rw [h1] at k;exact ifF h1 k
   | true=>
     rw [h1,Bool.true_and] at k
     refine ifT h1 ⟨_,rfl,rfl,x,rfl,rfl,_,rfl,?_⟩
     cases h2:(x.length > 0 && x.cps.all Unicode.isAlpha) with
     |false=>rw [h2] at k;exact ifF h2 k
     | true=>
       rw [h2,Bool.true_and] at k
       exact ifT h2 ⟨_,rfl,rfl,x,rfl,rfl,k⟩
  ·refine ifF (by simp;omega) ?_
   rw [decide_eq_false h8,Bool.false_and] at k
   exact k
end
end Cm
namespace Cm
open PySem L2 PySem.W
structure FunD (K:PySem.W.Frag) (x qual:Str) (st:Stmt) (dV:Value) (f:Addr) (fd:FuncData):Prop where
 ex:∃ (oc:Value) (od:Option Addr) (kV doc pm:Value) (an:Option Addr) (cdv ct:Value) (osl:Array (Option Value)),
  fd=PySem.W.fnOf x qual (defArgs st) (defBody st) (defScope st) dV kV doc pm an cdv ct/\K.lookup f=some ⟨oc,od,.func fd,osl⟩/\PySem.W.codeIn K cdv qual=true
 kp:PySem.W.keepIn K (.ref f)=true
section
variable {P:Program} {w:World} {K:PySem.W.Frag} {mg:Str->Option Value} {base:Heap}
theorem FunD.binds {x qual:Str} {st:Stmt} {f T:Addr} {fd:FuncData} {ps:List Str} {ds:List Value} {oT:Obj} {items:Array Value} {n:Nat} (F:FunD K x qual st (.ref T) f fd) (hT:K.lookup T=some oT) (hd:oT.data=.seq items n)
 (h:∀ (kV doc pm:Value) (an:Option Addr) (cdv ct:Value) (s:Shared) (us:List Value),s.heap.get? T=some oT->(us++ds).length=ps.length->BindsTo s (PySem.W.fnOf x qual (defArgs st) (defBody st) (defScope st) (.ref T) kV doc pm an cdv ct) ⟨us,[]⟩ (ps.zip (us++ds))):Binds K fd ps ds:=by
 obtain ⟨oc,od,kV,doc,pm,an,cdv,ct,osl,rfl,lk,hcd⟩:=F.ex
 exact fun s us X hl=>h kV doc pm an cdv ct s us (X _ _ hT) hl
end
abbrev sSE:Stmt:=inClass (top 2) 0
section
variable {P:Program} {w:World} {K:PySem.W.Frag} {mg:Str->Option Value} {base:Heap}
theorem FunD.ok1 {CX:CXT} {x qual:Str} {st:Stmt} {dV:Value} {f:Addr} {fd:FuncData} {N ps:List Str} {k:Nat} {sp:Sp} (F:FunD K x qual st dV f fd) (S:FnScope N ps (defScope st)) (len:∀ vs H Q E,sp vs H Q E->vs.length=ps.length)
 (hbody:∀ (cdv:Value) (A:Around) (outer:List Env) (s:Shared) (H:Hp) (vs:List V) (Q:VK) (E:XK),Room k (A.deeper (PyProof.Rows.envOfC qual (defScope st) s.heap.objs.size f cdv))->sp vs H Q E->
  ∃ t,PSs (cxOf CX P w K mg base N qual (defScope st) f cdv A outer s H E) (defBody st) t/\t { nx:=fun _ H'=>Q .non H',rt:=Q } (L2.start N vs) H):FnOk P w K mg base CX (k+1) f fd ps sp:=by
 obtain ⟨oc,od,kV,doc,pm,an,cdv,ct,osl,rfl,lk,hcd⟩:=F.ex
 exact fn_of lk hcd S len fun A outer s H vs Q E hr hsp=>hbody cdv A outer s H vs Q E hr hsp
structure ECls (K:Frag) (C:Addr):Prop where
 x:XCls K C "ValueError" "ValueError.__new__"
 w:takerIn K C "word" = some none
def spSE (K:Frag):Sp:=fun vs H Q _=>∃ (e C:Addr) (a:V) (b:V),vs=[.ref e,a,b]/\ECls K C/\H e=some (excO e C none)/\∀ da,H da=none->Q .non (upd (upd H e (excO e C (some da))) da (exD da [("word",b)]))
theorem scSE:FnScope ["self","words","word"] ["self","words","word"] (defScope sSE):=⟨rfl,rfl,rfl,by decide +kernel,rfl,by decide +kernel,by decide +kernel⟩
structure TxtE (K:Frag) (mg:Str->Option Value):Prop where
 ve:mg "ValueError" = none
 fc:findCls K (.type "ValueError") (.type "type") "__init__" = some (.val (.builtin "ValueError.__init__"))
theorem ok_se {CX:CXT} {f:Addr} {fd:FuncData} {dV:Value} (F:FunD K "__init__" "ScribeError.__init__" sSE dV f fd) (T:TxtE K mg):FnOk P w K mg base CX 1 f fd ["self","words","word"] (spSE K):=by
 refine F.ok1 scSE (fun vs H Q E h=>?_) (fun cdv A outer s H vs Q E hr h=>?_)
 ·obtain ⟨e,C,a,b,rfl,_⟩:=h
  rfl
 ·obtain ⟨e,C,a,b,rfl,EC,he,k⟩:=h
  refine ⟨_,(pss_cons (ps_expr (pe_typeMeth (by rfl) T.ve (by rfl) (by kernel_rfl) (by decide +kernel) T.fc (call_initX PySem.F.excBase_ValueError) (pa_cons (pv 0) (pa_cons (pv 1) pa_nil))))
   (pss_one (ps_fldX (B:="ValueError") (newId:="ValueError.__new__") (pv 0) (pv 2) rfl))),?_⟩
  exact ⟨_,rfl,_,rfl,e,C,_,_,rfl,he,EC.x,_,rfl,_,rfl,e,C,rfl,EC.x,EC.w,.inl ⟨he,k⟩⟩
structure MkOf (K:Frag) (mg:Str->Option Value) (cn:Str) (C f:Addr):Prop where
 mg:mg cn=some (.ref C)
 sg:specialIn K (.ref C) "__getattribute__" = some (some (.builtin "type.__getattribute__"))
 rd:∃ mc,readsIn K C mc=true/\findCls K (.ref C) mc "__init__" = some (.val (.ref f))
 kp:keepIn K (.ref f)=true
end
section
variable {P:Program} {w:World} {K:PySem.W.Frag} {mg:Str->Option Value} {base:Heap}
def spW (K:Frag) (wd:Str):Sp:=fun vs H Q _=>∃ (e C:Addr) (a:V),vs=[.ref e,a]/\ECls K C/\H e=some (excO e C none)/\∀ da,H da=none->Q .non (upd (upd H e (excO e C (some da))) da (exD da [("word",.str wd)]))
abbrev sBadTest:Stmt:=inClass (top 3) 0
theorem scBadTest:FnScope ["self","words"] ["self","words"] (defScope sBadTest):=⟨rfl,rfl,rfl,by decide +kernel,rfl,by decide +kernel,by decide +kernel⟩
theorem ok_BadTest {CX:CXT} {f cS fS:Addr} {fd fdS:FuncData} {dV dW:Value} (F:FunD K "__init__" "BadTest.__init__" sBadTest dW f fd) (T:TxtE K mg) (FS:FunD K "__init__" "ScribeError.__init__" sSE dV fS fdS) (bS:Binds K fdS ["self","words","word"] []) (MS:MkOf K mg "ScribeError" cS fS):FnOk P w K mg base CX 2 f fd ["self","words"] (spW K "badtest"):=by
 have GS:FnOk P w K mg base CX0 1 fS fdS ["self","words","word"] (spSE K):=ok_se FS T
 obtain ⟨mc,m1,m2⟩:=MS.rd
 refine F.ok1 scBadTest (fun vs H Q E h=>?_) (fun cdv A outer s H vs Q E hr h=>?_)
 ·obtain ⟨e,C,a,rfl,_⟩:=h
  rfl
 ·obtain ⟨e,C,a,rfl,EC,he,k⟩:=h
  refine ⟨_,(pss_one (ps_expr (pe_clsMeth (E:=E0) (by rfl) MS.mg MS.sg m1 m2 MS.kp GS hr bS .nil pass0 (pa_cons (pv 0) (pa_cons (pv 1) (pa_cons pe_str pa_nil)))))),?_⟩
  exact ⟨_,rfl,_,rfl,e,C,_,_,rfl,EC,he,k⟩
def Thrown (H:Hp) (fs:List (Str×V)) (da:Addr) (H':Hp):Prop:=H da=none/\H'=upd H da (exD da fs)
theorem thrown_of {H:Hp} {e da C:Addr} {fs:List (Str×V)} (h1:H e=none) (h2:upd H e (excO e C none) da=none):Thrown H fs da (unt (upd (upd (upd H e (excO e C none)) e (excO e C (some da))) da (exD da fs)) e):=by
 have ne:da≠e:=fun q=>by subst q;rw [upd_same] at h2;cases h2
 rw [upd_ne ne] at h2
 refine ⟨h2,funext fun b=>?_⟩
 by_cases q:b=e
 ·subst q
  rw [unt_same,upd_ne (Ne.symm ne),h1]
 ·rw [unt_ne q]
  by_cases r:b=da
  ·subst r;rw [upd_same,upd_same]
  ·rw [upd_ne r,upd_ne q,upd_ne q,upd_ne r]
theorem none_back {H H1:Hp} {e:Addr} (h:Same H H1) (n:H1 e=none):H e=none:=by
 cases z:H e with
 |none=>rfl
 |some o=>have:=h _ _ z;rw [n] at this;cases this
structure WCls (K:Frag) (mg:Str->Option Value) (x:Str) (C f:Addr) (fd:FuncData):Prop where
 b:Binds K fd ["self","words"] []
 mg:mg x=some (.ref C)
 e:ECls K C
 i:findIn K (.ref C) "__init__" = some (some (.ref f))
 n:isFn K (.ref f)=true
end
abbrev Far:Int:=1000000000000000000000000000000
def Asc (x:Str):Prop:=x.cps.all (·<128)=true
section
variable {P:Program} {w:World} {K:PySem.W.Frag} {mg:Str->Option Value} {base:Heap}
def spFar:Sp:=fun vs H Q _=>∃ (p dc:Addr),vs=[.ref p]/\Dr H p dc/\∀ (z:Int) (H':Hp),-Far≤z->z≤Far->Dr H' p dc->But p H H'->Q (.int z) H'
theorem scFar:FnScope ["_law_d","_law_number_here"] ["_law_d"] (defScope (top 33)):=⟨rfl,rfl,rfl,by decide +kernel,rfl,by decide +kernel,by decide +kernel⟩
theorem ok_far {f fP:Addr} {fd fdP:FuncData} (F:Fun K "_law_far" "_law_far" (top 33) f fd) (T:Txt K mg) (DP:Def K mg "_law_pick" (top 31) ["_law_d","_law_many"] fP fdP):FnOk P w K mg base CX0 2 f fd ["_law_d"] spFar:=by
 have GP:FnOk P w K mg base CX0 1 fP fdP ["_law_d","_law_many"] spPick:=ok_pick DP.F T
 refine F.ok scFar (fun vs H Q E h=>?_) (fun cdv A outer s H vs Q E hr h=>?_)
 ·obtain ⟨p,dc,rfl,_⟩:=h
  rfl
 ·obtain ⟨p,dc,rfl,D,k⟩:=h
  refine ⟨_,(pss_cons
 (ps_set (i:=1) scFar.nd rfl (Or.inl rfl) (pe_op op_add (pe_op op_pow pe_int pe_int) (pe_call GP hr rfl DP.mg DP.F.kp DP.b .nil pass0 (pa_cons (pv 0) (pa_cons (pe_op op_pow pe_int pe_int) pa_nil)))))
 (pss_one
 (ps_ret (pe_ix ix_list (pe_lst (pa_cons (pv 1) (pa_cons (pe_op op_sub pe_int (pv 1)) pa_nil))) (pe_call GP hr rfl DP.mg DP.F.kp DP.b .nil pass0 (pa_cons (pv 0) (pa_cons pe_int pa_nil))) (fun _ _=>rfl))))),?_⟩
  have c1:CPow 10 9:=⟨by decide,by decide,by decide⟩
  have c2:CPow 10 29:=⟨by decide,by decide,by decide⟩
  have p1:(10:Int) ^ (9:Int).toNat=1000000000:=by decide
  have p2:(10:Int) ^ (29:Int).toNat=100000000000000000000000000000:=by decide +kernel
  refine ⟨_,_,rfl,rfl,c1,_,rfl,_,_,rfl,rfl,c2,p,dc,_,rfl,D,by rw [p2];decide,by rw [p2];decide,fun r H1 a1 b1 D1 t1=>⟨_,_,rfl,rfl,?_⟩⟩
  rw [p2] at b1
  rw [p1]
  have z1:1000000000+r≤Far:=by simp only [Far];omega
  refine ⟨_,rfl,_,rfl,_,_,rfl,rfl,(show 2≤sizeLine by decide),fun q1 h1=>?_⟩
  have D2:=D1.new (o:=.lst [.int (1000000000+r),.int (0-(1000000000+r))]) h1
  refine ⟨_,rfl,p,dc,_,rfl,D2,by decide,by decide,fun r2 H2 a2 b2 D3 t2=>?_⟩
  have e1:SqL K H2 q1 [.int (1000000000+r),.int (0-(1000000000+r))]:=D2.seq t2 (SqL.of upd_same)
  have bt:But p H H2:=t1.trans ((But.new h1).trans t2)
  by_cases h0:r2=0
  ·subst h0
   exact ⟨_,_,_,_,rfl,rfl,e1,rfl,k _ _ (by simp only [Far] at *;omega) z1 D3 bt⟩
  ·obtain rfl:r2=1:=by omega
   exact ⟨_,_,_,_,rfl,rfl,e1,rfl,k _ _ (by simp only [Far] at *;omega) (by simp only [Far] at *;omega) D3 bt⟩
end
theorem far_len {i:Int} (h1:-(Far+2)≤i) (h2:i≤Far+2):i.natAbs.log2<1920/\(Str.ofString (toString i)).length≤1000:=by
 simp only [Far] at h1 h2
 constructor
 ·have h3:i.natAbs<2 ^ 128:=by omega
  by_cases h0:i.natAbs=0
  ·rw [h0];decide
  ·exact Nat.lt_trans ((Nat.log2_lt h0).mpr h3) (by decide)
 ·have:=int_text_length_le10 (a:=i) (k:=31) (by decide) (by omega)
  have e:(Str.ofString (toString i)).length=(toString i).length:=ofString_length _
  omega
theorem occ:∀ c<128,(!(Builtin.Str.occurrences ("abcdefghijklmnopqrstuvwxyz" : Str) ⟨#[c]⟩ 0 ("abcdefghijklmnopqrstuvwxyz" : Str).length 1).isEmpty)=decide (97≤c/\c≤122):=by decide +kernel
section
variable {P:Program} {w:World} {K:PySem.W.Frag} {mg:Str->Option Value} {base:Heap}
def spIsNm:Sp:=fun vs H Q _=>∃ x:Str,vs=[.str x]/\x.length≤50000/\Asc x/\∀ H',Same H H'->Q (.bl (nameB x)) H'
theorem scLN:FnScope ["_law_text"] ["_law_text"] (defScope (top 37)):=⟨rfl,rfl,rfl,by decide +kernel,rfl,by decide +kernel,by decide +kernel⟩
theorem nameB_letters (x:Str):nameB x=(decide (1≤x.length) && (decide (x.length≤8) && x.cps.toList.all fun c=>decide (97≤c/\c≤122))):=by
 have h:nameB x=true↔(decide (1≤x.length) && (decide (x.length≤8) && x.cps.toList.all fun c=>decide (97≤c/\c≤122)))=true:=by
  rw [nameB_iff]
  simp only [Bool.and_eq_true,decide_eq_true_eq,List.all_eq_true]
  exact ⟨fun h=>⟨h.lo,h.hi,fun c hc=>h.lc c hc⟩,fun h=>⟨h.1,h.2.1,fun c hc=>h.2.2 c hc⟩⟩
 cases e1:nameB x with
 |true=>exact (h.mp e1).symm
 | false=>
   cases e2:(decide (1≤x.length) && (decide (x.length≤8) && x.cps.toList.all fun c=>decide (97≤c/\c≤122))) with
   |false=>rfl
   |true=>rw [h.mpr e2] at e1;cases e1
theorem ok_isnm {f:Addr} {fd:FuncData} (F:Fun K "_law_is_name" "_law_is_name" (top 37) f fd) (T:Txt K mg):FnOk P w K mg base CX0 1 f fd ["_law_text"] spIsNm:=by
 refine F.ok scLN (fun vs H Q E h=>?_) (fun cdv A outer s H vs Q E hr h=>?_)
 ·obtain ⟨x,rfl,_⟩:=h
  rfl
 ·obtain ⟨x,rfl,hl,ha,k⟩:=h
  have big:50000≤sizeLine:=by decide
  refine ⟨_,(pss_one
 (ps_ret (pe_and (pe_chain op_le op_le pe_int (pe_callB call_len_str (by rfl) T.len bt_len (pa_cons (pv 0) pa_nil)) pe_int) (pe_one (pe_callB (call_allB rfl) (by rfl) T.all bt_all (pa_cons (pe_comp (own:=["_law_sign"]) (js:=[]) (N':=["_law_sign"]) (CompScope.of (osc:=defScope (top 37)) (N:=["_law_text"]) rfl rfl ⟨rfl,by decide +kernel,by decide +kernel,by decide +kernel,rfl,by decide +kernel⟩) rfl (pi_str (pv 0)) (fun _ _ _ _ _=>(pg_name (i:=0) (show List.Nodup (["_law_sign"]:List Str) by decide +kernel) rfl (Or.inl rfl) (Or.inr rfl))) (fun _ _ _ _ _=>pifs_nil) (fun _ _ _ _ _=>(pe_cmpR op_in_str (pv 0) pe_str rfl))) pa_nil)))))),?_⟩
  rw [nameB_letters] at k
  refine ⟨_,rfl,x,rfl,by omega,_,_,rfl,rfl,_,rfl,?_⟩
  by_cases h1:1≤x.length
  ·rw [decide_eq_true h1,Bool.true_and] at k
   refine ifT (by simp;omega) ⟨_,_,rfl,rfl,_,rfl,?_⟩
   by_cases h8:x.length≤8
   ·rw [decide_eq_true h8,Bool.true_and] at k
    refine ifT (by simp;omega) ⟨_,rfl,x,rfl,ha,?_⟩
    have hz:x.cps.size=x.length:=rfl
    refine comp_str (x:=x) (fun i ys σ' H'=>∃ v,σ'=[v]/\H'=H/\ys=((x.cps.toList.take i).map fun c=>V.bl (decide (97≤c/\c≤122)))) (by omega) ⟨none,rfl,rfl,by simp⟩ ?_ ?_
    ·rintro i c ys σ' H' hc hy ⟨v,rfl,rfl,rfl⟩ N hN
     have hc':x.cps.toList[i]?=some c:=by rw [Array.getElem?_toList];exact hc
     have c1:c<128:=by
      have h':=ha
      unfold Asc at h'
      rw [← Array.all_toList,List.all_eq_true] at h'
      simpa using h' c (List.mem_of_getElem? hc')
     refine ⟨_,rfl,_,_,rfl,rfl,?_⟩
     rw [occ c c1]
     refine hN _ _ _ (by simpa using hy) ⟨_,rfl,rfl,?_⟩
     rw [List.take_add_one,hc']
     simp
    ·rintro ys σ' H' hy ⟨v,rfl,rfl,rfl⟩
     rw [List.take_of_length_le (by simp)]
     refine ⟨by rw [List.length_map];have:x.cps.toList.length=x.length:=rfl;omega,fun q hq=>?_⟩
     refine ⟨q,x.cps.toList.map fun c=>decide (97≤c/\c≤122),rfl,?_,?_⟩
     ·have:=SqL.of (K:=K) (H:=upd H' q (.lst (x.cps.toList.map fun c=>V.bl (decide (97≤c/\c≤122))))) (a:=q) (xs:=x.cps.toList.map fun c=>V.bl (decide (97≤c/\c≤122))) upd_same
      rw [List.map_map]
      exact this
     ·dsimp only
      rw [List.all_map]
      exact k _ (Same.new hq)
   ·rw [decide_eq_false h8,Bool.false_and] at k
    exact ifF (by simp;omega) (k H fun _ _ z=>z)
  ·rw [decide_eq_false h1,Bool.false_and] at k
   exact ifF (by simp;omega) ⟨_,rfl,ifF rfl (k H fun _ _ z=>z)⟩
end
section
variable {P:Program} {w:World} {K:PySem.W.Frag} {mg:Str->Option Value} {base:Heap}
theorem asc_app {x y:Str} (a:Asc x) (b:Asc y):Asc (x++y):=by
 unfold Asc at *
 rw [← Array.all_toList,List.all_eq_true] at *
 intro c hc
 have:(x++y).cps.toList=x.cps.toList++y.cps.toList:=by
  show (x.cps++y.cps).toList=_
  simp
 rw [this] at hc
 rcases List.mem_append.mp hc with h|h
 ·exact a c h
 ·exact b c h
theorem asc_slice {x:Str} (a:Asc x) (l u:Option Int):Asc (Txt.slice x l u):=by
 unfold Asc at *
 rw [← Array.all_toList,List.all_eq_true] at *
 exact fun c hc=>a c (slice_sub x l u c hc)
def spOdd:Sp:=fun vs H Q _=>∃ (p dc:Addr) (x:Str),vs=[.ref p,.str x]/\Dr H p dc/\x.length≤500/\Asc x/\∀ (y:Str) (H':Hp),Asc y->y.length≤x.length+8->Dr H' p dc->But p H H'->Q (.str y) H'
theorem scOd:FnScope ["_law_d","_law_text","_law_odd"] ["_law_d","_law_text"] (defScope (top 39)):=⟨rfl,rfl,rfl,by decide +kernel,rfl,by decide +kernel,by decide +kernel⟩
theorem ok_odd {f fP fO:Addr} {fd fdP fdO:FuncData} (F:Fun K "_law_odd_name" "_law_odd_name" (top 39) f fd) (T:Txt K mg) (DP:Def K mg "_law_pick" (top 31) ["_law_d","_law_many"] fP fdP) (DO:Def K mg "_law_of" (top 32) ["_law_d","_law_things"] fO fdO) :
 FnOk P w K mg base CX0 3 f fd ["_law_d","_law_text"] spOdd:=by
 have GO:FnOk P w K mg base CX0 2 fO fdO ["_law_d","_law_things"] (spOf K):=ok_of DO.F T DP
 refine F.ok scOd (fun vs H Q E h=>?_) (fun cdv A outer s H vs Q E hr h=>?_)
 ·obtain ⟨p,dc,x,rfl,_⟩:=h
  rfl
 ·obtain ⟨p,dc,x,rfl,D,hl,ha,k⟩:=h
  refine ⟨_,(pss_cons
 (ps_set (i:=2) scOd.nd rfl (Or.inl rfl) (pe_lst (pa_cons pe_str (pa_cons (pe_op op_add_str (pv 1) pe_str) (pa_cons (pe_op op_add_str (pe_slice sl_str (pv 1) po_none (po_some pe_int)) pe_str) (pa_cons (pe_op op_add_str (pe_slice sl_str (pv 1) po_none (po_some pe_int)) pe_str) (pa_cons (pe_op op_add_str (pe_slice sl_str (pv 1) po_none (po_some pe_int)) pe_str) (pa_cons (pe_op op_add_str (pe_slice sl_str (pv 1) po_none (po_some pe_int)) pe_str) (pa_cons (pe_op op_add_str pe_str (pe_slice sl_str (pv 1) po_none (po_some pe_int))) pa_nil)))))))))
 (pss_one
 (ps_ret (pe_call GO hr rfl DO.mg DO.F.kp DO.b .nil pass0 (pa_cons (pv 0) (pa_cons (pv 2) pa_nil)))))),?_⟩
  have big:1000≤sizeLine:=by decide
  have l1:(("abcdefgh" : Str)).length=8:=by decide +kernel
  have sl:∀ j:Int,(Txt.slice x none (some j)).length≤x.length:=fun j=>Txt.slice_le x none (some j)
  have m:∀ y z:Str,y.length≤x.length->z.length=1->y.length+z.length≤sizeLine:=fun y z h1 h2=>by omega
  have m':∀ y z:Str,y.length≤x.length->z.length=1->z.length+y.length≤sizeLine:=fun y z h1 h2=>by omega
  refine ⟨_,rfl,_,_,rfl,rfl,by omega,?_⟩
  refine ⟨_,rfl,_,rfl,x,_,rfl,rfl,rfl,by omega,_,_,rfl,rfl,m _ ("A" : Str) (sl _) (by decide +kernel),?_⟩
  refine ⟨_,rfl,_,rfl,x,_,rfl,rfl,rfl,by omega,_,_,rfl,rfl,m _ (" " : Str) (sl _) (by decide +kernel),?_⟩
  refine ⟨_,rfl,_,rfl,x,_,rfl,rfl,rfl,by omega,_,_,rfl,rfl,m _ ("1" : Str) (sl _) (by decide +kernel),?_⟩
  refine ⟨_,rfl,_,rfl,x,_,rfl,rfl,rfl,by omega,_,_,rfl,rfl,m _ ("_" : Str) (sl _) (by decide +kernel),?_⟩
  refine ⟨_,rfl,_,rfl,x,_,rfl,rfl,rfl,by omega,_,_,rfl,rfl,m' _ ("{" : Str) (sl _) (by decide +kernel),?_⟩
  refine ⟨(show 7≤sizeLine by decide),fun q hq=>?_⟩
  refine ⟨_,rfl,_,rfl,p,dc,q,_,rfl,D.new hq,SqL.of upd_same,by simp,by simp,fun v H1 hv D1 b1=>?_⟩
  have ap:∀ y z:Str,(y++z).length=y.length+z.length:=fun y z=>Str.length_append y z
  have one:∀ z:Str,z.length=1->∀ j:Int,(Txt.slice x none (some j)++z).length≤x.length+8/\(z++Txt.slice x none (some j)).length≤x.length+8:=fun z hz j=>by
   have:=sl j
   rw [ap,ap]
   omega
  obtain ⟨y,rfl,y1,y2⟩:∃ y:Str,v=.str y/\Asc y/\y.length≤x.length+8:=by
   simp only [List.mem_cons,List.not_mem_nil,or_false] at hv
   rcases hv with rfl|rfl|rfl|rfl|rfl|rfl|rfl
   ·exact ⟨_,rfl,by unfold Asc;decide +kernel,Nat.zero_le _⟩
   ·exact ⟨_,rfl,asc_app ha (by unfold Asc;decide +kernel),by rw [ap];omega⟩
   ·exact ⟨_,rfl,asc_app (asc_slice ha _ _) (by unfold Asc;decide +kernel),(one _ (by decide +kernel) _).1⟩
   ·exact ⟨_,rfl,asc_app (asc_slice ha _ _) (by unfold Asc;decide +kernel),(one _ (by decide +kernel) _).1⟩
   ·exact ⟨_,rfl,asc_app (asc_slice ha _ _) (by unfold Asc;decide +kernel),(one _ (by decide +kernel) _).1⟩
   ·exact ⟨_,rfl,asc_app (asc_slice ha _ _) (by unfold Asc;decide +kernel),(one _ (by decide +kernel) _).1⟩
   ·exact ⟨_,rfl,asc_app (by unfold Asc;decide +kernel) (asc_slice ha _ _),(one _ (by decide +kernel) _).2⟩
  exact k y H1 y1 y2 D1 ((But.new hq).trans b1)
end
abbrev Huge:Int:=Far+2
inductive TD:PyData->Prop
 |str {x:Str}:Asc x->x.length≤40->TD (.str x)
 |int {i:Int}:-Huge≤i->i≤Huge->TD (.int i)
 |nil:TD (.tuple [])
 |node {f:Str} {r:List PyData}:Asc f->f.length≤40->r.length≤20->(∀ d∈r,TD d)->TD (.tuple (.str f::r))
def wordB:PyData->Bool
 |.str x=>nameB x
 |_=>false
def numB:PyData->Bool
 |.int i=>decide (-999999≤i) && decide (i≤999999)
 |_=>false
def leafB (f:Str) (r:List PyData):Bool:=
 if f = "all" then r.isEmpty else if f = "is" then (match r with|[x]=>wordB x|_=>false)
 else decide (f = "less"∨f = "same") && (match r with|[x,y]=>wordB x && numB y|_=>false)
def arity (f:Str):Option Nat:=if f = "not" then some 1 else if f = "and" then some 2 else if f = "or" then some 2 else none
def cnt:Nat->PyData->Nat
 |0,_=>0
 |n+1,.tuple (.str f::r)=>if leafB f r=true then 1 else if arity f=some r.length then (if 0∈r.map (cnt n) then 0 else 1+(r.map (cnt n)).sum) else 0
 |_+1,_=>0
mutual
def shapeB:PyData->Bool
 |.tuple (.str f::r)=>if f = "and"∨f = "or" then decide (r.length=2) && shapes r else if f = "not" then decide (r.length=1) && shapes r else leafB f r
 |_=>false
def shapes:List PyData->Bool
 |[]=>true
 |d::r=>shapeB d && shapes r
end
mutual
def deepF:PyData->Nat
 |.tuple (.str f::r)=>if (arity f).isSome=true then 1+deeps r else 1
 |_=>1
def deeps:List PyData->Nat
 |[]=>0
 |d::r=>max (deepF d) (deeps r)
end
mutual
def partsF:PyData->Nat
 |.tuple (.str f::r)=>if (arity f).isSome=true then 1+partss r else 1
 |_=>1
def partss:List PyData->Nat
 |[]=>0
 |d::r=>partsF d+partss r
end
def testB (d:PyData):Bool:=shapeB d && (decide (deepF d≤5) && decide (partsF d≤15))
theorem parts_pos:∀ d,1≤partsF d:=by
 intro d
 unfold partsF
 split
 ·split <;> omega
 ·omega
theorem deep_pos:∀ d,1≤deepF d:=by
 intro d
 unfold deepF
 split
 ·split <;> omega
 ·omega
theorem leaf_arity {f:Str} {r:List PyData} (h:leafB f r=true):arity f=none:=by
 unfold leafB at h
 unfold arity
 by_cases h1:f = "all"
 ·subst h1;decide +kernel
 ·rw [if_neg h1] at h
  by_cases h2:f = "is"
  ·subst h2;decide +kernel
  ·rw [if_neg h2,Bool.and_eq_true,decide_eq_true_eq] at h
   rcases h.1 with rfl|rfl <;> decide +kernel
theorem some_len (k:Nat) (r:List PyData):decide (some k=some r.length)=decide (r.length=k):=by
 simp only [Option.some.injEq,decide_eq_decide]
 exact ⟨fun h=>h.symm,fun h=>h.symm⟩
theorem shape_node {f:Str} {r:List PyData}:shapeB (.tuple (.str f::r))=if arity f=none then leafB f r else decide (arity f=some r.length) && shapes r:=by
 unfold shapeB
 by_cases h1:f = "and"
 ·subst h1
  rw [show arity "and" = some 2 from by decide +kernel,if_pos (Or.inl rfl),if_neg (show ¬ (some 2=(none:Option Nat)) from nofun),some_len]
 ·by_cases h2:f = "or"
  ·subst h2
   rw [show arity "or" = some 2 from by decide +kernel,if_pos (Or.inr rfl),if_neg (show ¬ (some 2=(none:Option Nat)) from nofun),some_len]
  ·rw [if_neg (by simp [h1,h2])]
   by_cases h3:f = "not"
   ·subst h3
    rw [show arity "not" = some 1 from by decide +kernel,if_pos rfl,if_neg (show ¬ (some 1=(none:Option Nat)) from nofun),some_len]
   ·have ha:arity f=none:=by unfold arity;rw [if_neg h3,if_neg h1,if_neg h2]
    rw [ha,if_neg h3,if_pos rfl]
theorem cnts {n:Nat} (ih:∀ d,cnt n d=if shapeB d=true/\deepF d≤n then partsF d else 0):∀ r:List PyData,(if 0∈r.map (cnt n) then 0 else 1+(r.map (cnt n)).sum)=if shapes r=true/\deeps r≤n then 1+partss r else 0
 |[]=>by simp [shapes,deeps,partss]
 | d::r=>by
   have h:=cnts ih r
   have hp:=parts_pos d
   rw [List.map_cons,List.sum_cons]
   have es:shapes (d::r)=(shapeB d && shapes r):=rfl
   have ed:deeps (d::r)=max (deepF d) (deeps r):=rfl
   have ep:partss (d::r)=partsF d+partss r:=rfl
   by_cases hd:shapeB d=true/\deepF d≤n
   ·have e:cnt n d=partsF d:=by rw [ih,if_pos hd]
    by_cases hr:shapes r=true/\deeps r≤n
    ·rw [if_pos hr] at h
     have h0:¬ 0∈r.map (cnt n):=fun z=>by rw [if_pos z] at h;omega
     rw [if_neg h0] at h
     rw [if_neg (by rw [List.mem_cons,not_or,e];exact ⟨by omega,h0⟩),if_pos ⟨by rw [es,hd.1,hr.1];rfl,by rw [ed];omega⟩,e,ep]
     omega
    ·rw [if_neg hr] at h
     have h0:0∈r.map (cnt n):=by
      by_cases z:0∈r.map (cnt n)
      ·exact z
      ·rw [if_neg z] at h;omega
     rw [if_pos (List.mem_cons_of_mem _ h0),if_neg]
     rintro ⟨z1,z2⟩
     rw [es,Bool.and_eq_true] at z1
     rw [ed] at z2
     exact hr ⟨z1.2,by omega⟩
   ·have e:cnt n d=0:=by rw [ih,if_neg hd]
    rw [if_pos (by rw [e];exact List.mem_cons_self ..),if_neg]
    rintro ⟨z1,z2⟩
    rw [es,Bool.and_eq_true] at z1
    rw [ed] at z2
    exact hd ⟨z1.1,by omega⟩
theorem cnt_eq:∀ (n:Nat) (d:PyData),cnt n d=if shapeB d=true/\deepF d≤n then partsF d else 0
 | 0,d=>by
   have:=deep_pos d
   rw [if_neg (by omega)]
   rfl
 | n+1,d=>by
   have ih:=cnt_eq n
   by_cases hd:∃ f r,d=.tuple (.str f::r)
   ·obtain ⟨f,r,rfl⟩:=hd
    have e1:cnt (n+1) (.tuple (.str f::r))=if leafB f r=true then 1 else if arity f=some r.length then (if 0∈r.map (cnt n) then 0 else 1+(r.map (cnt n)).sum) else 0:=rfl
    have e2:deepF (.tuple (.str f::r))=if (arity f).isSome=true then 1+deeps r else 1:=rfl
    have e3:partsF (.tuple (.str f::r))=if (arity f).isSome=true then 1+partss r else 1:=rfl
    have e4:=@shape_node f r
    by_cases hl:leafB f r=true
    ·have ha:=leaf_arity hl
     rw [ha] at e2 e3 e4
     rw [e1,if_pos hl,if_pos ⟨by rw [e4,if_pos rfl];exact hl,by rw [e2];simp⟩,e3]
     rfl
    ·rw [e1,if_neg hl]
     by_cases ha:arity f=none
     ·rw [if_neg (by rw [ha];nofun),if_neg]
      rintro ⟨q,_⟩
      rw [e4,if_pos ha] at q
      exact hl q
     ·obtain ⟨k,hk⟩:=Option.ne_none_iff_exists'.mp ha
      rw [hk] at e2 e3 e4 ⊢
      rw [if_neg (show ¬ (some k=(none:Option Nat)) from nofun)] at e4
      by_cases hkr:k=r.length
      ·subst hkr
       rw [if_pos rfl,cnts ih r]
       by_cases z:shapes r=true/\deeps r≤n
       ·rw [if_pos z,if_pos ⟨by rw [e4,z.1];simp,by rw [e2];simp;omega⟩,e3]
        rfl
       ·rw [if_neg z,if_neg]
        rintro ⟨q1,q2⟩
        rw [e4] at q1
        rw [e2] at q2
        simp at q1 q2
        exact z ⟨q1,by omega⟩
      ·rw [if_neg (by simpa using hkr),if_neg]
       rintro ⟨q,_⟩
       rw [e4] at q
       simp [hkr] at q
   ·have e1:cnt (n+1) d=0:=by
     unfold cnt
     split
     ·omega
     ·exact absurd ⟨_,_,rfl⟩ hd
     ·rfl
    have e2:shapeB d=false:=by
     unfold shapeB
     split
     ·exact absurd ⟨_,_,rfl⟩ hd
     ·rfl
    rw [e1,e2,if_neg (by simp)]
theorem test_eq (d:PyData):(decide (1≤cnt 5 d) && decide (cnt 5 d≤15))=testB d:=by
 have hp:=parts_pos d
 rw [cnt_eq]
 unfold testB
 by_cases h:shapeB d=true/\deepF d≤5
 ·rw [if_pos h,h.1,decide_eq_true h.2]
  simp [hp]
 ·rw [if_neg h]
  have:(shapeB d && decide (deepF d≤5))=false:=by
   rw [← Bool.not_eq_true,Bool.and_eq_true,decide_eq_true_eq]
   exact h
  rw [← Bool.and_assoc,this]
  rfl
section
variable {P:Program} {w:World} {K:PySem.W.Frag} {mg:Str->Option Value} {base:Heap}
def spIw (K:Frag):Sp:=fun vs H Q _=>∃ (x:V) (d:PyData),vs=[x]/\Rep K H x d/\TD d/\Q (.bl (wordB d)) H
theorem scIw:FnScope ["thing"] ["thing"] (defScope (top 17)):=⟨rfl,rfl,rfl,by decide +kernel,rfl,by decide +kernel,by decide +kernel⟩
theorem ok_iw {f fN:Addr} {fd fdN:FuncData} (F:Fun K "is_word" "is_word" (top 17) f fd) (T:Txt K mg) (TK:TxtK mg) (DN:Def K mg "is_name" (top 11) ["text"] fN fdN):FnOk P w K mg base CX0 2 f fd ["thing"] (spIw K):=by
 have GN:FnOk P w K mg base CX0 1 fN fdN ["text"] spIsName:=ok_isname DN.F T TK
 refine F.ok scIw (fun vs H Q E h=>?_) (fun cdv A outer s H vs Q E hr h=>?_)
 ·obtain ⟨x,d,rfl,_⟩:=h
  rfl
 ·obtain ⟨x,d,rfl,rd,td,k⟩:=h
  refine ⟨_,(pss_one (ps_ret (pe_and (pe_callB call_isT (by rfl) T.isinstance bt_isinstance (pa_cons (pv 0) (pa_cons (pe_ty rfl T.str bt_str) pa_nil))) (pe_one (pe_call GN hr rfl DN.mg DN.F.kp DN.b .nil pass0 (pa_cons (pv 0) pa_nil)))))),?_⟩
  cases td with
  | @str y a l=>
    cases rd
    exact ⟨_,rfl,_,_,_,_,rfl,.str y,rfl,_,rfl,ifT rfl ⟨_,rfl,y,rfl,Nat.le_trans l (by decide),k⟩⟩
  | @int i a b=>
    cases rd
    exact ⟨_,rfl,_,_,_,_,rfl,.int i,rfl,_,rfl,ifF rfl k⟩
  |nil=>exact ⟨_,rfl,_,_,_,_,rfl,rd,rfl,_,rfl,ifF rfl k⟩
  |node a l n z=>exact ⟨_,rfl,_,_,_,_,rfl,rd,rfl,_,rfl,ifF rfl k⟩
def spNb (K:Frag):Sp:=fun vs H Q _=>∃ (x:V) (d:PyData),vs=[x]/\Rep K H x d/\TD d/\Q (.bl (numB d)) H
theorem scNb:FnScope ["thing"] ["thing"] (defScope (top 18)):=⟨rfl,rfl,rfl,by decide +kernel,rfl,by decide +kernel,by decide +kernel⟩
theorem ok_nb {f:Addr} {fd:FuncData} (F:Fun K "is_number" "is_number" (top 18) f fd) (T:Txt K mg) (TK:TxtK mg):FnOk P w K mg base CX0 1 f fd ["thing"] (spNb K):=by
 refine F.ok scNb (fun vs H Q E h=>?_) (fun cdv A outer s H vs Q E hr h=>?_)
 ·obtain ⟨x,d,rfl,_⟩:=h
  rfl
 ·obtain ⟨x,d,rfl,rd,td,k⟩:=h
  obtain ⟨tl,ml⟩:=TK.lim
  refine ⟨_,(pss_one (ps_ret (pe_and (pe_callB call_isT (by rfl) T.isinstance bt_isinstance (pa_cons (pv 0) (pa_cons (pe_ty rfl T.int bt_int) pa_nil))) (pe_and (pe_not (pe_callB call_isT (by rfl) T.isinstance bt_isinstance (pa_cons (pv 0) (pa_cons (pe_ty rfl T.bool bt_bool) pa_nil)))) (pe_one (pe_chain op_le op_le (pe_un un_neg (pe_glob (v:=.int 999999) rfl ml ⟨_,rfl⟩)) (pv 0) (pe_glob (v:=.int 999999) rfl ml ⟨_,rfl⟩))))))),?_⟩
  cases td with
  | @int i a b=>
    cases rd
    refine ⟨_,rfl,_,_,_,_,rfl,.int i,rfl,_,rfl,ifT rfl ⟨_,rfl,_,_,_,_,rfl,.int i,rfl,_,rfl,_,rfl,ifT rfl ?_⟩⟩
    exact EvE.chain (EvE.neg EvE.con) (EvE.var rfl) EvE.con EvR.i0 EvR.i0 _ k
  | @str y a l=>
    cases rd
    exact ⟨_,rfl,_,_,_,_,rfl,.str y,rfl,_,rfl,ifF rfl k⟩
  |nil=>exact ⟨_,rfl,_,_,_,_,rfl,rd,rfl,_,rfl,ifF rfl k⟩
  |node a l n z=>exact ⟨_,rfl,_,_,_,_,rfl,rd,rfl,_,rfl,ifF rfl k⟩
abbrev dW:List (Str×PyData):=[("not",.int 1),("and",.int 2),("or",.int 2)]
abbrev dS:List (Str×PyData):=[("less",.str "<"),("same",.str "=")]
structure Tabs (K:Frag) (mg:Str->Option Value) (aW aS:Addr):Prop where
 mw:mg "WITHIN" = some (.ref aW)
 ms:mg "SIGN_OF" = some (.ref aS)
 kw:TabK K aW dW
 ks:TabK K aS dS
theorem tab_w (f:Str):tabV dW f=(arity f).map fun n=>V.int (n:Nat):=by
 unfold tabV arity
 show ((if _ then _ else if _ then _ else if _ then _ else none:Option PyData)).map flV=_
 by_cases h1:f = "not"
 ·subst h1;rfl
 ·by_cases h2:f = "and"
  ·subst h2;rfl
  ·by_cases h3:f = "or"
   ·subst h3;rfl
   ·simp [h1,h2,h3]
theorem tab_s (f:Str):tabV dS f=if f = "less" then some (.str "<") else if f = "same" then some (.str "=") else none:=by
 unfold tabV
 show ((if _ then _ else if _ then _ else none:Option PyData)).map flV=_
 by_cases h1:f = "less"
 ·subst h1;rfl
 ·by_cases h2:f = "same"
  ·subst h2;rfl
  ·simp [h1,h2]
def spLf (K:Frag):Sp:=fun vs H Q _=>∃ (a:Addr) (f:Str) (r:List PyData),vs=[.ref a]/\Rep K H (.ref a) (.tuple (.str f::r))/\TD (.tuple (.str f::r))/\Q (.bl (leafB f r)) H
theorem scLf:FnScope ["test","form"] ["test"] (defScope (top 19)):=⟨rfl,rfl,rfl,by decide +kernel,rfl,by decide +kernel,by decide +kernel⟩
theorem ok_lf {f fW fN fI aW aS:Addr} {fd fdW fdN fdI:FuncData} (F:Fun K "is_leaf" "is_leaf" (top 19) f fd) (T:Txt K mg) (TK:TxtK mg) (TB:Tabs K mg aW aS) (DI:Def K mg "is_name" (top 11) ["text"] fI fdI) (DW:Def K mg "is_word" (top 17) ["thing"] fW fdW) (DN:Def K mg "is_number" (top 18) ["thing"] fN fdN):FnOk P w K mg base CX0 3 f fd ["test"] (spLf K):=by
 have GW:FnOk P w K mg base CX0 2 fW fdW ["thing"] (spIw K):=ok_iw DW.F T TK DI
 have GN:FnOk P w K mg base CX0 1 fN fdN ["thing"] (spNb K):=ok_nb DN.F T TK
 refine F.ok scLf (fun vs H Q E h=>?_) (fun cdv A outer s H vs Q E hr h=>?_)
 ·obtain ⟨a,f,r,rfl,_⟩:=h
  rfl
 ·obtain ⟨a,f,r,rfl,rd,td,k⟩:=h
  have hr1:Room 1 _:=hr.mono (by decide)
  refine ⟨_,(pss_cons (ps_set (i:=1) scLf.nd rfl (Or.inl rfl) (pe_ix ix_tup (pv 0) pe_int (fun _ _=>rfl)))
   (pss_cons (ps_if (pt_cmpR op_eq (pv 1) pe_str (nomark _)) (pss_one (ps_ret (pe_cmpR op_eq (pe_callB call_len_seq (by rfl) T.len bt_len (pa_cons (pv 0) pa_nil)) pe_int (nomark _)))) pss_nil)
   (pss_cons (ps_if (pt_cmpR op_eq (pv 1) pe_str (nomark _)) (pss_one (ps_ret (pe_and (pe_cmpR op_eq (pe_callB call_len_seq (by rfl) T.len bt_len (pa_cons (pv 0) pa_nil)) pe_int (nomark _)) (pe_one (pe_call GW hr rfl DW.mg DW.F.kp DW.b .nil pass0 (pa_cons (pe_ix ix_tup (pv 0) pe_int (fun _ _=>rfl)) pa_nil)))))) pss_nil)
   (pss_one (ps_ret (pe_and (pe_cmpR op_inTab (pv 1) (pe_glob (v:=.ref aS) rfl TB.ms rfl) rfl) (pe_and (pe_cmpR op_eq (pe_callB call_len_seq (by rfl) T.len bt_len (pa_cons (pv 0) pa_nil)) pe_int (nomark _)) (pe_and (pe_call GW hr rfl DW.mg DW.F.kp DW.b .nil pass0 (pa_cons (pe_ix ix_tup (pv 0) pe_int (fun _ _=>rfl)) pa_nil)) (pe_one (pe_call GN hr1 rfl DN.mg DN.F.kp DN.b .nil pass0 (pa_cons (pe_ix ix_tup (pv 0) pe_int (fun _ _=>rfl)) pa_nil))))))))))),?_⟩
  cases td with
  |node af lf nr tr=>
  cases rd with
  |@tup _ xs _ sq rs=>
  obtain ⟨x0,ys,rfl⟩:∃ x0 ys,xs=x0::ys:=by cases rs;exact ⟨_,_,rfl⟩
  obtain ⟨r0,rt⟩:Rep K H x0 (.str f)/\Reps K H ys r:=by cases rs with|cons a b=>exact ⟨a,b⟩
  cases r0
  have hl:=rt.length
  refine ⟨_,rfl,a,_,_,_,rfl,rfl,sq,atI_nat (j:=0) rfl,_,rfl,rfl,_,rfl,?_⟩
  unfold leafB at k
  by_cases h1:f = "all"
  ·subst h1
   rw [if_pos rfl] at k
   refine ifT (by simp) ⟨_,rfl,a,_,rfl,.inr sq,rfl,?_⟩
   have e:decide (V.int ((V.str "all"::ys).length:Nat)=V.int 1)=r.isEmpty:=by
    rw [Bool.eq_iff_iff,decide_eq_true_eq,List.isEmpty_iff,List.length_cons,V.int.injEq]
    constructor
    ·intro h
     exact List.length_eq_zero_iff.mp (by omega)
    ·rintro rfl
     simp at hl
     simp [hl]
   rw [e]
   exact k
  ·rw [if_neg h1] at k
   refine ifF (by simp [h1]) ⟨_,rfl,rfl,_,rfl,?_⟩
   by_cases h2:f = "is"
   ·subst h2
    rw [if_pos rfl] at k
    refine ifT (by simp) ⟨_,rfl,a,_,rfl,.inr sq,rfl,_,rfl,?_⟩
    match r,ys,rt,k,hl with
    |[],[],_,k,_=>exact ifF (by simp) k
    |[d],[y],.cons ry .nil,k,_=>exact ifT (by simp) ⟨_,rfl,a,_,_,_,rfl,rfl,sq,atI_nat (j:=1) rfl,y,d,rfl,ry,tr d (List.mem_cons_self ..),k⟩
    |_::_::_,_::_::_,_,k,_=>exact ifF (by simp;omega) k
   ·rw [if_neg h2] at k
    refine ifF (by simp [h2]) ⟨_,rfl,f,aS,dS,rfl,rfl,TB.ks,_,rfl,?_⟩
    have e:(if false=true then !(tabV dS f).isSome else (tabV dS f).isSome)=decide (f = "less"∨f = "same"):=by
     rw [tab_s]
     by_cases q1:f = "less"
     ·simp [q1]
     ·by_cases q2:f = "same"
      ·rw [if_neg q1,if_pos q2];simp [q2]
      ·simp [q1,q2]
    rw [e]
    by_cases h3:f = "less"∨f = "same"
    ·rw [decide_eq_true h3,Bool.true_and] at k
     refine ifT (by simp [h3]) ⟨_,rfl,a,_,rfl,.inr sq,rfl,_,rfl,?_⟩
     match r,ys,rt,k,hl with
     |[],[],_,k,_=>exact ifF (by simp) k
     |[d],[y],_,k,_=>exact ifF (by simp) k
     | [d,d2],[y,y2],.cons ry (.cons ry2 .nil),k,_=>
       refine ifT (by simp) ⟨_,rfl,a,_,_,_,rfl,rfl,sq,atI_nat (j:=1) rfl,y,d,rfl,ry,tr d (List.mem_cons_self ..),_,rfl,?_⟩
       have k:Q (.bl (wordB d && numB d2)) H:=k
       cases hw:wordB d with
       |false=>rw [hw] at k;exact ifF rfl k
       | true=>
         rw [hw] at k
         exact ifT rfl ⟨_,rfl,a,_,_,_,rfl,rfl,sq,atI_nat (j:=2) rfl,y2,d2,rfl,ry2,tr d2 (List.mem_cons_of_mem _ (List.mem_cons_self ..)),k⟩
     |_::_::_::_,_::_::_::_,_,k,_=>exact ifF (by simp;omega) k
    ·rw [decide_eq_false h3,Bool.false_and] at k
     exact ifF (by simp [h3]) k
end
theorem arity_le {f:Str} {k:Nat} (h:arity f=some k):1≤k/\k≤2:=by
 unfold arity at h
 split at h
 ·cases h;omega
 ·split at h
  ·cases h;omega
  ·split at h
   ·cases h;omega
   ·cases h
theorem cnt_lt:∀ (n:Nat) (d:PyData),cnt n d+1≤2 ^ n
 |0,_=>by simp [cnt]
 | n+1,d=>by
   have ih:=cnt_lt n
   have p:1≤2 ^ n:=Nat.one_le_two_pow
   rw [Nat.pow_succ]
   by_cases hd:∃ f r,d=.tuple (.str f::r)
   ·obtain ⟨f,r,rfl⟩:=hd
    show (if leafB f r=true then 1 else if arity f=some r.length then (if 0∈r.map (cnt n) then 0 else 1+(r.map (cnt n)).sum) else 0)+1≤_
    split
    ·omega
    ·split
     ·rename_i h
      split
      ·omega
      ·have a:=arity_le h
       match r,a with
       |[x],_=>have:=ih x;simp;omega
       |[x,y],_=>have:=ih x;have:=ih y;simp;omega
       |_::_::_::_,a=>simp at a
       |[],a=>simp at a
     ·omega
   ·have e:cnt (n+1) d=0:=by
     unfold cnt
     split
     ·omega
     ·exact absurd ⟨_,_,rfl⟩ hd
     ·rfl
    omega
theorem sum_cast (g:PyData->Nat) (r:List PyData):(r.map fun d=>((g d:Nat):Int)).sum=(((r.map g).sum:Nat):Int):=by
 induction r with
 |nil=>rfl
 |cons d r ih=>rw [List.map_cons,List.map_cons,List.sum_cons,List.sum_cons,ih];omega
section
variable {P:Program} {w:World} {K:PySem.W.Frag} {mg:Str->Option Value} {base:Heap}
def spCp (K:Frag) (n:Nat):Sp:=fun vs H Q _=>∃ (x:V) (d:PyData),vs=[x,.int (n:Nat)]/\Rep K H x d/\TD d/\∀ H',Same H H'->Q (.int (cnt n d:Nat)) H'
abbrev NCp:List Str:=["thing","deep","counts"]
theorem scCp:FnScope NCp ["thing","deep"] (defScope (top 20)):=⟨rfl,rfl,rfl,by decide +kernel,rfl,by decide +kernel,by decide +kernel⟩
theorem cut1 {x:V} {xs:List V}:cutV (x::xs) (some 1) none=xs:=by
 simp [cutV,HT.sIx]
theorem ok_cp {f fL fW fN fI aW aS:Addr} {fd fdL fdW fdN fdI:FuncData} (DC:Def K mg "count_parts" (top 20) ["thing","deep"] f fd) (T:Txt K mg) (hsum:mg "sum" = none) (TK:TxtK mg) (TB:Tabs K mg aW aS) (DI:Def K mg "is_name" (top 11) ["text"] fI fdI) (DW:Def K mg "is_word" (top 17) ["thing"] fW fdW) (DN:Def K mg "is_number" (top 18) ["thing"] fN fdN)
 (DL:Def K mg "is_leaf" (top 19) ["test"] fL fdL) (n:Nat) (hn5:n≤20):FnOk P w K mg base CX0 (n+4) f fd ["thing","deep"] (spCp K n):=by
 have GL:FnOk P w K mg base CX0 3 fL fdL ["test"] (spLf K):=ok_lf DL.F T TK TB DI DW DN
 have main:∀ m k:Nat,m≤20->(∀ n,n+1=m->FnOk P w K mg base CX0 (n+4) f fd ["thing","deep"] (spCp K n))->FnOk P w K mg base CX0 (m+4) f fd ["thing","deep"] (spCp K m):=by
  intro m k0 hm GC
  refine DC.F.ok scCp (fun vs H Q E h=>?_) (fun cdv A outer s H vs Q E hr h=>?_)
  ·obtain ⟨x,d,rfl,_⟩:=h
   rfl
  ·obtain ⟨x,d,rfl,rd,td,k⟩:=h
   have hr3:Room 3 _:=hr.mono (by omega)
   have GC':FnOk P w K mg base CX0 (m+3) f fd ["thing","deep"] (fun vs H Q E=>∃ n,n+1=m/\spCp K n vs H Q E):=by
    match m,GC with
    |0,_=>exact ⟨fun _ _ _ _ ⟨n,e,_⟩=>by omega,fun _ _ _ _ _ _ _ _ _ _ _ _ _ ⟨n,e,_⟩=>by omega⟩
    | m+1,GC=>
      have G:=GC m rfl
      exact ⟨fun vs H Q E ⟨n,e,h⟩=>by cases e;exact G.1 vs H Q E h,fun a1 a2 a3 a4 a5 a6 a7 a8 a9 a10 a11 a12 a13 ⟨n,e,h⟩=>by cases e;exact G.2 a1 a2 a3 a4 a5 a6 a7 a8 a9 a10 a11 a12 a13 h⟩
   refine ⟨_,(pss_cons (ps_if (PW.pt (pw_or (pt_cmpR op_eq (pv 1) pe_int (nomark _)) (pw_or (pt_not (pt_val (pe_callB call_isT (by rfl) T.isinstance bt_isinstance (pa_cons (pv 0) (pa_cons (pe_ty rfl T.tuple bt_tuple) pa_nil))))) (pw_or1 (pt_cmpR op_eq (pe_callB call_len_seq (by rfl) T.len bt_len (pa_cons (pv 0) pa_nil)) pe_int (nomark _)))))) (pss_one (ps_ret pe_int)) pss_nil)
    (pss_cons (ps_if (pt_val (pe_call GL hr3 rfl DL.mg DL.F.kp DL.b .nil pass0 (pa_cons (pv 0) pa_nil))) (pss_one (ps_ret pe_int)) pss_nil)
    (pss_cons (ps_if (pt_cmpR op_ne (pe_tabGet (pe_glob (v:=.ref aW) rfl TB.mw rfl) (pe_ix ix_tup (pv 0) pe_int (fun _ _=>rfl)) ⟨rfl,rfl,rfl,rfl⟩) (pe_op op_sub (pe_callB call_len_seq (by rfl) T.len bt_len (pa_cons (pv 0) pa_nil)) pe_int) (nomark _)) (pss_one (ps_ret pe_int)) pss_nil)
    (pss_cons (ps_setComp (g:=gName 0) (i:=2) (own:=["part"]) (js:=[1]) (N':=["part","deep"]) (CompScope.of (osc:=defScope (top 20)) (N:=NCp) rfl rfl ⟨rfl,by decide +kernel,by decide +kernel,by decide +kernel,rfl,by decide +kernel⟩) rfl scCp.nd rfl rfl (pi_tup (pe_slice sl_tupW (pv 0) (po_some pe_int) po_none)) (fun _ _ _ _ _=>(pg_name (i:=0) (show List.Nodup (["part","deep"]:List Str) by decide +kernel) rfl (Or.inl rfl) (Or.inr rfl))) (fun _ _ _ _ _=>pifs_nil) (fun _ _ _ _ _=>pe_call GC' hr rfl DC.mg DC.F.kp DC.b .nil pass0 (pa_cons (pv 0) (pa_cons (pe_op op_sub (pv 1) pe_int) pa_nil))))
    (pss_one (ps_ret (pe_ifExp (pt_cmpR op_in_seq pe_int (pv 2) rfl) pe_int (pe_op op_add pe_int (pe_callB (call_sumL rfl) (by rfl) hsum bt_sum (pa_cons (pv 2) pa_nil)))))))))),?_⟩
   refine ⟨_,rfl,rfl,_,rfl,?_⟩
   by_cases h0:m=0
   ·subst h0
    exact ifT (by simp) (ifT rfl (k _ (Same.refl _)))
   refine ifF (by simp [h0]) ?_
   obtain ⟨n,rfl⟩:∃ n,m=n+1:=⟨m-1,by omega⟩
   cases td with
   |str a l=>cases rd;exact ⟨_,rfl,_,_,_,_,rfl,.str _,rfl,_,rfl,ifT rfl (ifT rfl (k _ (Same.refl _)))⟩
   |int a b=>cases rd;exact ⟨_,rfl,_,_,_,_,rfl,.int _,rfl,_,rfl,ifT rfl (ifT rfl (k _ (Same.refl _)))⟩
   | nil=>
     cases rd with
     |@tup a xs _ sq rs=>
     cases rs
     exact ⟨_,rfl,_,_,_,_,rfl,.tup sq .nil,rfl,_,rfl,ifF rfl ⟨_,rfl,a,_,rfl,.inr sq,rfl,_,rfl,ifT (by simp) (k _ (Same.refl _))⟩⟩
   |@node f r af lf nr tr=>
   have rd0:=rd
   cases rd with
   |@tup a xs _ sq rs=>
   obtain ⟨x0,ys,rfl⟩:∃ x0 ys,xs=x0::ys:=by cases rs;exact ⟨_,_,rfl⟩
   obtain ⟨r0,rt⟩:Rep K H x0 (.str f)/\Reps K H ys r:=by cases rs with|cons a b=>exact ⟨a,b⟩
   cases r0
   have hl:=rt.length
   refine ⟨_,rfl,_,_,_,_,rfl,rd0,rfl,_,rfl,ifF rfl ⟨_,rfl,a,_,rfl,.inr sq,rfl,_,rfl,ifF (by simp;omega) ?_⟩⟩
   refine ⟨_,rfl,a,f,r,rfl,rd0,.node af lf nr tr,_,rfl,?_⟩
   have e1:cnt (n+1) (.tuple (.str f::r))=if leafB f r=true then 1 else if arity f=some r.length then (if 0∈r.map (cnt n) then 0 else 1+(r.map (cnt n)).sum) else 0:=rfl
   rw [e1] at k
   by_cases hlf:leafB f r=true
   ·rw [if_pos hlf] at k
    rw [hlf]
    exact ifT rfl (k _ (Same.refl _))
   rw [if_neg hlf] at k
   rw [Bool.eq_false_iff.mpr hlf]
   refine ifF rfl ?_
   refine ⟨aW,dW,rfl,TB.kw,_,rfl,a,_,_,_,rfl,rfl,sq,atI_nat (j:=0) rfl,f,rfl,_,rfl,a,_,rfl,.inr sq,_,_,rfl,rfl,?_⟩
   rw [tab_w]
   by_cases ha:arity f=some r.length
   ·rw [if_pos ha] at k
    rw [ha]
    refine ⟨rfl,_,rfl,ifF (by simp;omega) ?_⟩
    refine ⟨_,rfl,1,rfl,a,_,rfl,sq,(fun e=>?_),fun p hp=>?_⟩
    ·rw [cut1] at e
     have:=congrArg List.length e
     simp at this
    ·rw [cut1]
     have sp:SqT K (upd H p (.tup ys)) p ys:=SqT.of upd_same
     have s1:Same H (upd H p (.tup ys)):=Same.new hp
     generalize upd H p (.tup ys)=H1 at sp s1 ⊢
     refine ⟨p,rfl,⟨_,sp⟩,?_⟩
     refine comp_tup (K:=K) (a:=p) (xs:=ys) (fun i zs σ' H'=>(∃ v,σ'=[v,some (.int (n+1:Nat))])/\Same H1 H'/\zs=((r.take i).map fun d=>V.int (cnt n d:Nat))) (Nat.le_trans (show ys.length≤20 by omega) (by decide)) ⟨⟨none,rfl⟩,Same.refl _,rfl⟩ (fun i zs σ' H' _ ⟨_,s2,_⟩=>s2.tup sp) ?_ ?_
     ·rintro i y zs σ' H2 hy hzs ⟨⟨v,rfl⟩,s2,rfl⟩ N hN
      obtain ⟨d,hd,ry⟩:=rt.get' hy
      refine ⟨_,rfl,_,rfl,_,_,rfl,rfl,n,rfl,y,d,?_,ry.same (s1.trans s2),tr d (List.mem_of_getElem? hd),fun H3 s3=>?_⟩
      ·show [y,V.int ((n+1:Nat)-1)]=[y,V.int (n:Nat)]
       rw [show (((n+1:Nat):Int)-1)=(n:Nat) by omega]
      ·exact hN _ _ _ (by rw [List.length_append,hzs];rfl) ⟨⟨_,rfl⟩,s2.trans s3,by rw [List.take_add_one,hd];simp⟩
     ·rintro zs σ' H2 hzs ⟨⟨v,rfl⟩,s2,rfl⟩
      rw [List.take_of_length_le (by omega)]
      have lr:(r.map fun d=>V.int (cnt n d:Nat)).length≤20:=by rw [List.length_map];exact nr
      refine ⟨Nat.le_trans lr (by decide),fun q hq=>?_⟩
      have s3:Same H (upd H2 q (.lst (r.map fun d=>V.int (cnt n d:Nat)))):=(s1.trans s2).trans (Same.new hq)
      have sq2:SqL K (upd H2 q (.lst (r.map fun d=>V.int (cnt n d:Nat)))) q (r.map fun d=>V.int (cnt n d:Nat)):=SqL.of upd_same
      generalize upd H2 q (.lst (r.map fun d=>V.int (cnt n d:Nat)))=H3 at s3 sq2 ⊢
      refine ⟨_,rfl,q,_,rfl,.inl sq2,rfl,by simp [flatV],_,rfl,?_⟩
      have ein:(if false=true then !inV (.int 0) (r.map fun d=>V.int (cnt n d:Nat)) else inV (.int 0) (r.map fun d=>V.int (cnt n d:Nat)))=decide (0∈r.map (cnt n)):=by
       show inV (.int 0) (r.map fun d=>V.int (cnt n d:Nat))=_
       rw [Bool.eq_iff_iff,decide_eq_true_eq]
       unfold inV
       simp only [List.any_eq_true,List.mem_map]
       constructor
       ·rintro ⟨_,⟨d,hd,rfl⟩,he⟩
        exact ⟨d,hd,by simpa [eqV] using he⟩
       ·rintro ⟨d,hd,he⟩
        exact ⟨_,⟨d,hd,rfl⟩,by simp [he,eqV]⟩
      rw [ein]
      by_cases hz:0∈r.map (cnt n)
      ·rw [if_pos hz] at k
       rw [decide_eq_true hz]
       exact ifT rfl (k _ s3)
      ·rw [if_neg hz] at k
       rw [decide_eq_false hz]
       refine ifF rfl ?_
       refine ⟨_,rfl,q,r.map fun d=>((cnt n d:Nat):Int),rfl,by rw [List.map_map];exact sq2,by rw [List.length_map];omega,fun x hx=>?_,_,_,rfl,rfl,?_⟩
       ·obtain ⟨d,_,rfl⟩:=List.mem_map.mp hx
        have:=cnt_lt n d
        have p20:2 ^ n≤2 ^ 20:=Nat.pow_le_pow_right (by decide) (by omega)
        have:(2:Nat) ^ 20=1048576:=by decide
        omega
       ·have es:=sum_cast (cnt n) r
        rw [es]
        have:=k _ s3
        rw [show ((1+(r.map (cnt n)).sum:Nat):Int)=1+(((r.map (cnt n)).sum:Nat):Int) by omega] at this
        exact this
   ·rw [if_neg ha] at k
    cases hb:arity f with
    |none=>exact ⟨rfl,_,rfl,ifT rfl (k _ (Same.refl _))⟩
    | some j=>
      refine ⟨rfl,_,rfl,ifT ?_ (k _ (Same.refl _))⟩
      have:¬ j=r.length:=fun e=>ha (by rw [hb,e])
      simp
      omega
 induction n with
 |zero=>exact main 0 0 (by omega) (fun n e=>by omega)
 |succ n ih=>exact main (n+1) 0 hn5 (fun n' e=>by cases e;exact ih (by omega))
end
theorem shapes_mem:∀ {r:List PyData} {d:PyData},shapes r=true->d∈r->shapeB d=true
 | e::r,d,h,m=>by
   have h:(shapeB e && shapes r)=true:=h
   rw [Bool.and_eq_true] at h
   rcases List.mem_cons.mp m with rfl|m
   ·exact h.1
   ·exact shapes_mem h.2 m
theorem deeps_mem:∀ {r:List PyData} {d:PyData},d∈r->deepF d≤deeps r
 | e::r,d,m=>by
   have h:deeps (e::r)=max (deepF e) (deeps r):=rfl
   rcases List.mem_cons.mp m with rfl|m
   ·omega
   ·have:=deeps_mem m
    omega
structure Node (n:Nat) (f:Str) (r:List PyData):Prop where
 ar:arity f=some r.length
 sh:∀ d∈r,shapeB d=true
 de:∀ d∈r,deepF d≤n
theorem node_of {n:Nat} {f:Str} {r:List PyData} (h:shapeB (.tuple (.str f::r))=true) (hd:deepF (.tuple (.str f::r))≤n+1):(arity f=none/\leafB f r=true)∨Node n f r:=by
 rw [shape_node] at h
 by_cases ha:arity f=none
 ·rw [if_pos ha] at h
  exact .inl ⟨ha,h⟩
 ·rw [if_neg ha,Bool.and_eq_true,decide_eq_true_eq] at h
  have e:deepF (.tuple (.str f::r))=if (arity f).isSome=true then 1+deeps r else 1:=rfl
  rw [h.1] at e
  have e:deepF (.tuple (.str f::r))=1+deeps r:=e
  exact .inr ⟨h.1,fun d m=>shapes_mem h.2 m,fun d m=>by have:=deeps_mem m;omega⟩
theorem shape_tuple {d:PyData} (td:TD d) (h:shapeB d=true):∃ f r,d=.tuple (.str f::r):=by
 cases td with
 |node a b c e=>exact ⟨_,_,rfl⟩
 |_=>exact absurd h (by simp [shapeB])
theorem sqt_upd {K:Frag} {H:Hp} {a q:Addr} {xs ys:List V} {o:HO} (h:SqT K H a xs) (hq:H q=some (.lst ys)):SqT K (upd H q o) a xs:=by
 rcases h with (h|⟨ob,h⟩)|h
 ·exact .inl (.inl (by rw [upd_ne (ne_of h hq (by intro z;cases z))];exact h))
 ·exact .inl (.inr ⟨ob,by rw [upd_ne (ne_of h hq (by intro z;cases z))];exact h⟩)
 ·exact .inr h
theorem rep_upd {K:Frag} {H:Hp} {q:Addr} {ys:List V} {o:HO} (hq:H q=some (.lst ys)):∀ {d:PyData} {v:V},TD d->Rep K H v d->Rep K (upd H q o) v d:=by
 intro d v td
 induction td generalizing v with
 |str a l=>intro r;cases r;exact .str _
 |int a b=>intro r;cases r;exact .int _
 |nil=>intro r;cases r with|tup sq rs=>cases rs;exact .tup (sqt_upd sq hq) .nil
 | @node f r a b c tr ih=>
   intro rp
   cases rp with
   |tup sq rs=>
   cases rs with
   |cons r0 rs=>
   cases r0
   refine .tup (sqt_upd sq hq) (.cons (.str _) ?_)
   have:∀ {l:List PyData} {vs:List V},(∀ d∈l,d∈r)->Reps K H vs l->Reps K (upd H q o) vs l:=by
    intro l
    induction l with
    |nil=>intro vs _ h;cases h;exact .nil
    | cons e l ihl=>
      intro vs hm h
      cases h with
      |cons h1 h2=>exact .cons (ih e (hm e (List.mem_cons_self ..)) h1) (ihl (fun d m=>hm d (List.mem_cons_of_mem _ m)) h2)
   exact this (fun d m=>m) rs
theorem reps_app {K:Frag} {H:Hp}:∀ {l m:List PyData} {vs us:List V},Reps K H vs l->Reps K H us m->Reps K H (vs++us) (l++m)
 |[],_,_,_,.nil,h=>h
 |_::_,_,_,_,.cons a b,h=>.cons a (reps_app b h)
section
variable {P:Program} {w:World} {K:PySem.W.Frag} {mg:Str->Option Value} {base:Heap}
structure TxtT (mg:Str->Option Value):Prop where
 mp:∃ t,mg "MOST_PARTS" = some (.int 15 t)
 md:∃ t,mg "MOST_DEEP" = some (.int 5 t)
def spIt (K:Frag):Sp:=fun vs H Q _=>∃ (x:V) (d:PyData),vs=[x]/\Rep K H x d/\TD d/\∀ H',Same H H'->Q (.bl (testB d)) H'
theorem scIt:FnScope ["test"] ["test"] (defScope (top 21)):=⟨rfl,rfl,rfl,by decide +kernel,rfl,by decide +kernel,by decide +kernel⟩
theorem ok_it {f fC:Addr} {fd fdC:FuncData} (F:Fun K "is_test" "is_test" (top 21) f fd) (TT:TxtT mg) (DC:Def K mg "count_parts" (top 20) ["thing","deep"] fC fdC) (GC:FnOk P w K mg base CX0 9 fC fdC ["thing","deep"] (spCp K 5)):FnOk P w K mg base CX0 10 f fd ["test"] (spIt K):=by
 refine F.ok scIt (fun vs H Q E h=>?_) (fun cdv A outer s H vs Q E hr h=>?_)
 ·obtain ⟨x,d,rfl,_⟩:=h
  rfl
 ·obtain ⟨x,d,rfl,rd,td,k⟩:=h
  obtain ⟨t1,mp⟩:=TT.mp
  obtain ⟨t2,md⟩:=TT.md
  refine ⟨_,(pss_one (ps_ret (pe_chain op_le op_le pe_int (pe_call GC hr rfl DC.mg DC.F.kp DC.b .nil pass0 (pa_cons (pv 0) (pa_cons (pe_glob (v:=.int 5) rfl md ⟨_,rfl⟩) pa_nil))) (pe_glob (v:=.int 15) rfl mp ⟨_,rfl⟩)))),?_⟩
  refine ⟨_,rfl,x,d,rfl,rd,td,fun H' s1=>⟨_,_,rfl,rfl,_,rfl,?_⟩⟩
  have k:=k H' s1
  rw [← test_eq] at k
  refine ite2 (fun h=>?_) (fun h=>?_)
  ·refine ⟨_,_,rfl,rfl,?_⟩
   have e1:1≤cnt 5 d:=by simp at h;omega
   have e2:decide (((cnt 5 d:Nat):Int)≤15)=decide (cnt 5 d≤15):=by rw [Bool.eq_iff_iff];simp;omega
   rw [decide_eq_true e1,Bool.true_and] at k
   show Q (.bl (decide (((cnt 5 d:Nat):Int)≤15))) H'
   rw [e2]
   exact k
  ·have e1:¬ 1≤cnt 5 d:=by simp at h;omega
   rw [decide_eq_false e1,Bool.false_and] at k
   exact k
abbrev btF:List (Str×V):=[("word",.str "badtest")]
def spNt (K:Frag) (cT:Addr):Sp:=fun vs H Q E=>∃ (x:V) (d:PyData),vs=[x]/\Rep K H x d/\TD d/\(testB d=true->∀ H',Same H H'->Q .non H')/\(testB d=false->∀ H1 da H',Same H H1->Thrown H1 btF da H'->E (.ref cT) (some da) H')
theorem scNt:FnScope ["test"] ["test"] (defScope (top 22)):=⟨rfl,rfl,rfl,by decide +kernel,rfl,by decide +kernel,by decide +kernel⟩
theorem ok_nt {f fI cT fT:Addr} {fd fdI fdT:FuncData} (F:Fun K "need_test" "need_test" (top 22) f fd) (DI:Def K mg "is_test" (top 21) ["test"] fI fdI) (GI:FnOk P w K mg base CX0 10 fI fdI ["test"] (spIt K)) (WT:WCls K mg "BadTest" cT fT fdT) (GT:FnOk P w K mg base CX0 2 fT fdT ["self","words"] (spW K "badtest")):FnOk P w K mg base (CX1 P w) 11 f fd ["test"] (spNt K cT):=by
 refine F.ok1 scNt (fun vs H Q E h=>?_) (fun cdv A outer s H vs Q E hr h=>?_)
 ·obtain ⟨x,d,rfl,_⟩:=h
  rfl
 ·obtain ⟨x,d,rfl,rd,td,k,kx⟩:=h
  have hr3:Room 3 _:=hr.mono (by decide)
  refine ⟨_,(pss_one (ps_if (pt_not (pt_val (pe_call (E:=E0) GI hr rfl DI.mg DI.F.kp DI.b .nil pass0 (pa_cons (pv 0) pa_nil)))) (pss_one (ps_raise (B:="ValueError") (newId:="ValueError.__new__") (W:=E)
   (pe_makeX (E:=E0) PySem.F.excBase_ValueError WT.e.x WT.i WT.n GT hr3 (by rfl) WT.mg WT.b .nil pass0 (pa_cons pe_str pa_nil)) rfl rfl (fun pins σ H' s' e cls dd I x q=>xe1 I x q))) pss_nil)),?_⟩
  refine ⟨_,rfl,x,d,rfl,rd,td,fun H1 s1=>⟨_,rfl,?_⟩⟩
  cases h:testB d with
  |true=>exact ifF rfl (k h H1 s1)
  | false=>
    refine ifT rfl ?_
    intro e he
    refine ⟨e,cT,_,rfl,WT.e,upd_same,fun da hda=>⟨rfl,e,cT,some da,rfl,?_,none_back s1 he,WT.e.x,kx h H1 da _ s1 (thrown_of he hda)⟩⟩
    have ne:e≠da:=fun q=>by subst q;rw [upd_same] at hda;cases hda
    rw [upd_ne ne,upd_same]
end
inductive Leaf:Str->List PyData->Prop
 |all:Leaf "all" []
 |is {x:Str}:nameB x=true->Leaf "is" [.str x]
 |num {f x:Str} {i:Int}:f = "less"∨f = "same"->nameB x=true->numB (.int i)=true->Leaf f [.str x,.int i]
theorem leaf_of {f:Str} {r:List PyData} (h:leafB f r=true):Leaf f r:=by
 unfold leafB at h
 by_cases h1:f = "all"
 ·subst h1
  rw [if_pos rfl,List.isEmpty_iff] at h
  subst h
  exact .all
 ·rw [if_neg h1] at h
  by_cases h2:f = "is"
  ·subst h2
   rw [if_pos rfl] at h
   cases r with
   |nil=>cases h
   | cons d r=>
     cases r with
     |cons _ _=>cases h
     | nil=>
       cases d with
       |str x=>exact .is h
       |_=>exact absurd h (by simp [wordB])
  ·rw [if_neg h2,Bool.and_eq_true,decide_eq_true_eq] at h
   obtain ⟨h0,h⟩:=h
   cases r with
   |nil=>cases h
   | cons d r=>
     cases r with
     |nil=>cases h
     | cons e r=>
       cases r with
       |cons _ _=>cases h
       | nil=>
         have h:(wordB d && numB e)=true:=h
         rw [Bool.and_eq_true] at h
         cases d with
         | str x=>
           cases e with
           |int i=>exact .num h0 h.1 h.2
           |_=>exact absurd h.2 (by simp [numB])
         |_=>exact absurd h.1 (by simp [wordB])
theorem Leaf.ar {f:Str} {r:List PyData} (h:Leaf f r):arity f=none:=by
 cases h with
 |all=>decide +kernel
 |is _=>decide +kernel
 |num h _ _=>rcases h with rfl|rfl <;> decide +kernel
theorem asc_nm {x:Str} (h:Nm x):Asc x:=by
 unfold Asc
 rw [← Array.all_toList,List.all_eq_true]
 intro c hc
 have:=h.lc c hc
 simp;omega
structure Tr (n:Nat) (d:PyData):Prop where
 td:TD d
 sh:shapeB d=true
 dp:pdDep d≤n
theorem td_nm {x:Str} (h:Nm x):TD (.str x):=.str (asc_nm h) (by have:=h.hi;omega)
theorem Leaf.tr {f:Str} {r:List PyData} (h:Leaf f r):Tr 1 (.tuple (.str f::r)):=by
 have sh:shapeB (.tuple (.str f::r))=true:=by
  rw [shape_node,h.ar,if_pos rfl]
  cases h with
  |all=>rfl
  |is n=>exact n
  | num h n m=>
    unfold leafB
    rcases h with rfl|rfl
    ·rw [if_neg (by decide +kernel),if_neg (by decide +kernel)];simp [wordB,n,m]
    ·rw [if_neg (by decide +kernel),if_neg (by decide +kernel)];simp [wordB,n,m]
 cases h with
 |all=>exact ⟨.node (by unfold Asc;decide +kernel) (by decide +kernel) (by simp) (by simp),sh,by simp [pdDep,pdDeps]⟩
 | @is x n=>
   refine ⟨.node (by unfold Asc;decide +kernel) (by decide +kernel) (by simp) (fun d m=>?_),sh,by simp [pdDep,pdDeps]⟩
   simp at m;subst m
   exact td_nm ((nameB_iff x).mp n)
 | @num f x i h n m1=>
   refine ⟨.node ?_ ?_ (by simp) (fun d m=>?_),sh,by simp [pdDep,pdDeps]⟩
   ·rcases h with rfl|rfl <;> (unfold Asc;decide +kernel)
   ·rcases h with rfl|rfl <;> decide +kernel
   ·simp at m
    rcases m with rfl|rfl
    ·exact td_nm ((nameB_iff x).mp n)
    ·have h:(decide (-999999≤i) && decide (i≤999999))=true:=m1
     simp at h
     have:(1000000:Int)≤Huge:=by decide
     exact .int (by omega) (by omega)
section
variable {P:Program} {w:World} {K:PySem.W.Frag} {mg:Str->Option Value} {base:Heap}
def spLn:Sp:=fun vs H Q _=>∃ (p dc:Addr),vs=[.ref p]/\Dr H p dc/\∀ (z:Int) (H':Hp),-999999≤z->z≤999999->Dr H' p dc->But p H H'->Q (.int z) H'
theorem scLnu:FnScope ["_law_d"] ["_law_d"] (defScope (top 40)):=⟨rfl,rfl,rfl,by decide +kernel,rfl,by decide +kernel,by decide +kernel⟩
theorem ok_ln {f fP fO:Addr} {fd fdP fdO:FuncData} (F:Fun K "_law_number" "_law_number" (top 40) f fd) (T:Txt K mg) (DP:Def K mg "_law_pick" (top 31) ["_law_d","_law_many"] fP fdP) (DO:Def K mg "_law_of" (top 32) ["_law_d","_law_things"] fO fdO):FnOk P w K mg base CX0 3 f fd ["_law_d"] spLn:=by
 have GP:FnOk P w K mg base CX0 1 fP fdP ["_law_d","_law_many"] spPick:=ok_pick DP.F T
 have GO:FnOk P w K mg base CX0 2 fO fdO ["_law_d","_law_things"] (spOf K):=ok_of DO.F T DP
 refine F.ok scLnu (fun vs H Q E h=>?_) (fun cdv A outer s H vs Q E hr h=>?_)
 ·obtain ⟨p,dc,rfl,_⟩:=h
  rfl
 ·obtain ⟨p,dc,rfl,D,k⟩:=h
  have hr1:Room 1 _:=hr.mono (by decide)
  refine ⟨_,(pss_one (ps_ret (pe_call GO hr rfl DO.mg DO.F.kp DO.b .nil pass0 (pa_cons (pv 0) (pa_cons (pe_lst (pa_cons pe_int (pa_cons pe_int (pa_cons (pe_call GP hr1 rfl DP.mg DP.F.kp DP.b .nil pass0 (pa_cons (pv 0) (pa_cons pe_int pa_nil))) (pa_cons (pe_op op_sub (pe_call GP hr1 rfl DP.mg DP.F.kp DP.b .nil pass0 (pa_cons (pv 0) (pa_cons pe_int pa_nil))) pe_int) (pa_cons pe_int (pa_cons (pe_un un_neg pe_int) (pa_cons (pe_op op_sub (pe_call GP hr1 rfl DP.mg DP.F.kp DP.b .nil pass0 (pa_cons (pv 0) (pa_cons pe_int pa_nil))) pe_int) pa_nil)))))))) pa_nil))))),?_⟩
  refine ⟨_,rfl,_,rfl,p,dc,_,rfl,D,by decide,by decide,fun r1 H1 r10 r11 D1 b1=>?_⟩
  refine ⟨_,rfl,p,dc,_,rfl,D1,by decide,by decide,fun r2 H2 r20 r21 D2 b2=>⟨_,_,rfl,rfl,_,rfl,?_⟩⟩
  refine ⟨_,rfl,p,dc,_,rfl,D2,by decide,by decide,fun r3 H3 r30 r31 D3 b3=>⟨_,_,rfl,rfl,(show 7≤sizeLine by decide),fun q hq=>?_⟩⟩
  refine ⟨p,dc,q,_,rfl,D3.new hq,SqL.of upd_same,by simp,by simp,fun y H4 hy D4 b4=>?_⟩
  obtain ⟨z,rfl,h1,h2⟩:∃ z:Int,y=.int z/\-999999≤z/\z≤999999:=by
   simp only [List.mem_cons,List.not_mem_nil,or_false] at hy
   rcases hy with rfl|rfl|rfl|rfl|rfl|rfl|rfl
   all_goals exact ⟨_,rfl,by omega,by omega⟩
  exact k z H4 h1 h2 D4 (((b1.trans b2).trans b3).trans ((But.new hq).trans b4))
def spLe (K:Frag):Sp:=fun vs H Q _=>∃ (p dc q q':Addr) (ys ys':List Str),vs=[.ref p,.ref q,.ref q']/\Dr H p dc/\SqL K H q (ys.map V.str)/\SqL K H q' (ys'.map V.str)/\ys≠[]/\ys'≠[]/\ys.length≤100/\ys'.length≤100/\(∀ y∈ys,Nm y)/\(∀ y∈ys',Nm y)/\
 ∀ (x:V) (f:Str) (r:List PyData) (H':Hp),Rep K H' x (.tuple (.str f::r))->Leaf f r->Dr H' p dc->But p H H'->Q x H'
abbrev NLe:List Str:=["_law_d","_law_names","_law_kinds","_law_way"]
theorem scLe:FnScope NLe ["_law_d","_law_names","_law_kinds"] (defScope (top 41)):=⟨rfl,rfl,rfl,by decide +kernel,rfl,by decide +kernel,by decide +kernel⟩
theorem mem_str {ys:List Str} {v:V} (h:v∈ys.map V.str):∃ y∈ys,v=.str y:=by
 obtain ⟨y,m,rfl⟩:=List.mem_map.mp h
 exact ⟨y,m,rfl⟩
theorem ok_le {f fP fO fN:Addr} {fd fdP fdO fdN:FuncData} (F:Fun K "_law_leaf" "_law_leaf" (top 41) f fd) (T:Txt K mg) (DP:Def K mg "_law_pick" (top 31) ["_law_d","_law_many"] fP fdP) (DO:Def K mg "_law_of" (top 32) ["_law_d","_law_things"] fO fdO) (DN:Def K mg "_law_number" (top 40) ["_law_d"] fN fdN):FnOk P w K mg base CX0 4 f fd ["_law_d","_law_names","_law_kinds"] (spLe K):=by
 have GP:FnOk P w K mg base CX0 1 fP fdP ["_law_d","_law_many"] spPick:=ok_pick DP.F T
 have GO:FnOk P w K mg base CX0 2 fO fdO ["_law_d","_law_things"] (spOf K):=ok_of DO.F T DP
 have GN:FnOk P w K mg base CX0 3 fN fdN ["_law_d"] spLn:=ok_ln DN.F T DP DO
 refine F.ok scLe (fun vs H Q E h=>?_) (fun cdv A outer s H vs Q E hr h=>?_)
 ·obtain ⟨p,dc,q,q',ys,ys',rfl,_⟩:=h
  rfl
 ·obtain ⟨p,dc,q,q',ys,ys',rfl,D,hq,hq',ne,ne',l,l',nm,nm',k⟩:=h
  have hr1:Room 1 _:=hr.mono (by decide)
  have hr2:Room 2 _:=hr.mono (by decide)
  refine ⟨_,(pss_cons (ps_set (i:=3) scLe.nd rfl (Or.inl rfl) (pe_call GP hr1 rfl DP.mg DP.F.kp DP.b .nil pass0 (pa_cons (pv 0) (pa_cons pe_int pa_nil))))
   (pss_cons (ps_if (pt_cmpR op_eq (pv 3) pe_int (nomark _)) (pss_one (ps_ret (pe_tup (pa_cons pe_str pa_nil)))) pss_nil)
   (pss_cons (ps_if (pt_cmpR op_eq (pv 3) pe_int (nomark _)) (pss_one (ps_ret (pe_tup (pa_cons pe_str (pa_cons (pe_call GO hr2 rfl DO.mg DO.F.kp DO.b .nil pass0 (pa_cons (pv 0) (pa_cons (pv 2) pa_nil))) pa_nil))))) pss_nil)
   (pss_one (ps_ret (pe_tup (pa_cons (pe_ix ix_list (pe_lst (pa_cons pe_str (pa_cons pe_str pa_nil))) (pe_op op_mod (pv 3) pe_int) (fun _ _=>rfl)) (pa_cons (pe_call GO hr2 rfl DO.mg DO.F.kp DO.b .nil pass0 (pa_cons (pv 0) (pa_cons (pv 1) pa_nil))) (pa_cons (pe_call GN hr rfl DN.mg DN.F.kp DN.b .nil pass0 (pa_cons (pv 0) pa_nil)) pa_nil))))))))),?_⟩
  refine ⟨_,rfl,p,dc,_,rfl,D,by decide,by decide,fun w1 H1 w0 w6 D1 b1=>⟨_,rfl,rfl,_,rfl,?_⟩⟩
  refine ite2 (fun _=>⟨(show 1≤sizeLine by decide),fun t ht=>?_⟩) (fun _=>⟨_,rfl,rfl,_,rfl,?_⟩)
  ·exact k _ "all" [] _ (.tup (SqT.of upd_same) (.cons (.str _) .nil)) .all (D1.new ht) (b1.trans (But.new ht))
  refine ite2 (fun _=>?_) (fun _=>?_)
  ·refine ⟨_,rfl,_,rfl,p,dc,q',_,rfl,D1,D.seq b1 hq',by simpa using ne',by rw [List.length_map];omega,fun y H2 hy D2 b2=>⟨(show 2≤sizeLine by decide),fun t ht=>?_⟩⟩
   obtain ⟨y,my,rfl⟩:=mem_str hy
   exact k _ "is" [.str y] _ (.tup (SqT.of upd_same) (.cons (.str _) (.cons (.str _) .nil))) (.is ((nameB_iff y).mpr (nm' y my))) (D2.new ht) ((b1.trans b2).trans (But.new ht))
  ·refine ⟨(show 2≤sizeLine by decide),fun l0 hl0=>⟨_,rfl,_,_,rfl,rfl,(by show (0:Int)<2;decide),?_⟩⟩
   have b2:But p H (upd H1 l0 (.lst [.str "less",.str "same"])):=b1.trans (But.new hl0)
   obtain ⟨j,hj,ej⟩:∃ j:Nat,j<2/\w1 % 2=j:=⟨(w1 % 2).toNat,by omega,by omega⟩
   have D2:=D1.new (o:=.lst [.str "less",.str "same"]) hl0
   obtain ⟨f0,hf,ef⟩:∃ f0:Str,(f0 = "less"∨f0 = "same")/\([V.str "less",V.str "same"])[j]?=some (.str f0):=by
    match j,hj with
    |0,_=>exact ⟨"less",.inl rfl,rfl⟩
    |1,_=>exact ⟨"same",.inr rfl,rfl⟩
   refine ⟨l0,_,_,_,rfl,rfl,SqL.of upd_same,(by rw [ej];exact atI_nat ef),_,rfl,_,rfl,p,dc,q,_,rfl,D2,D.seq b2 hq,by simpa using ne,by rw [List.length_map];omega,fun y H3 hy D3 b3=>?_⟩
   obtain ⟨y,my,rfl⟩:=mem_str hy
   refine ⟨_,rfl,p,dc,rfl,D3,fun z H4 z1 z2 D4 b4=>⟨(show 3≤sizeLine by decide),fun t ht=>?_⟩⟩
   exact k _ f0 [.str y,.int z] _ (.tup (SqT.of upd_same) (.cons (.str _) (.cons (.str _) (.cons (.int _) .nil)))) (.num hf ((nameB_iff y).mpr (nm y my)) (by simp [numB];omega)) (D4.new ht) (((b2.trans b3).trans b4).trans (But.new ht))
theorem Tr.mono {n m:Nat} {d:PyData} (h:Tr n d) (l:n≤m):Tr m d:=⟨h.td,h.sh,Nat.le_trans h.dp l⟩
theorem Tr.one {n:Nat} {d:PyData} (h:Tr n d):Tr (n+1) (.tuple [.str "not",d]):=by
 refine ⟨.node (by unfold Asc;decide +kernel) (by decide +kernel) (by simp) (fun e m=>?_),?_,?_⟩
 ·simp at m;subst m;exact h.td
 ·rw [shape_node,show arity "not" = some 1 from by decide +kernel,if_neg (by nofun)]
  simp [shapes,h.sh]
 ·have:=h.dp
  simp [pdDep,pdDeps];omega
theorem Tr.two {n:Nat} {f:Str} {d e:PyData} (hf:f = "and"∨f = "or") (h:Tr n d) (h':Tr n e):Tr (n+1) (.tuple [.str f,d,e]):=by
 refine ⟨.node ?_ ?_ (by simp) (fun e m=>?_),?_,?_⟩
 ·rcases hf with rfl|rfl <;> (unfold Asc;decide +kernel)
 ·rcases hf with rfl|rfl <;> decide +kernel
 ·simp at m
  rcases m with rfl|rfl
  ·exact h.td
  ·exact h'.td
 ·have ha:arity f=some 2:=by rcases hf with rfl|rfl <;> decide +kernel
  rw [shape_node,ha,if_neg (by nofun)]
  simp [shapes,h.sh,h'.sh]
 ·have:=h.dp
  have:=h'.dp
  simp [pdDep,pdDeps];omega
def spTr (K:Frag) (n:Nat):Sp:=fun vs H Q _=>∃ (p dc q q':Addr) (ys ys':List Str) (m:Int),vs=[.ref p,.int m,.ref q,.ref q']/\m≤n/\Dr H p dc/\SqL K H q (ys.map V.str)/\SqL K H q' (ys'.map V.str)/\ys≠[]/\ys'≠[]/\ys.length≤100/\ys'.length≤100/\(∀ y∈ys,Nm y)/\(∀ y∈ys',Nm y)/\
 ∀ (x:V) (d:PyData) (H':Hp),Rep K H' x d->Tr n d->Dr H' p dc->But p H H'->Q x H'
abbrev NTr:List Str:=["_law_d","_law_deep_here","_law_names","_law_kinds","_law_way","_law_word_here"]
theorem scTr:FnScope NTr ["_law_d","_law_deep_here","_law_names","_law_kinds"] (defScope (top 42)):=⟨rfl,rfl,rfl,by decide +kernel,rfl,by decide +kernel,by decide +kernel⟩
theorem ok_tr {f fP fO fN fL:Addr} {fd fdP fdO fdN fdL:FuncData} (DT:Def K mg "_law_tree" (top 42) ["_law_d","_law_deep_here","_law_names","_law_kinds"] f fd) (T:Txt K mg) (DP:Def K mg "_law_pick" (top 31) ["_law_d","_law_many"] fP fdP) (DO:Def K mg "_law_of" (top 32) ["_law_d","_law_things"] fO fdO) (DN:Def K mg "_law_number" (top 40) ["_law_d"] fN fdN)
 (DL:Def K mg "_law_leaf" (top 41) ["_law_d","_law_names","_law_kinds"] fL fdL) (n:Nat):FnOk P w K mg base CX0 (n+5) f fd ["_law_d","_law_deep_here","_law_names","_law_kinds"] (spTr K (n+1)):=by
 have GP:FnOk P w K mg base CX0 1 fP fdP ["_law_d","_law_many"] spPick:=ok_pick DP.F T
 have GL:FnOk P w K mg base CX0 4 fL fdL ["_law_d","_law_names","_law_kinds"] (spLe K):=ok_le DL.F T DP DO DN
 have main:∀ m:Nat,(∀ j,j+1=m->FnOk P w K mg base CX0 (j+5) f fd ["_law_d","_law_deep_here","_law_names","_law_kinds"] (spTr K (j+1)))->FnOk P w K mg base CX0 (m+5) f fd ["_law_d","_law_deep_here","_law_names","_law_kinds"] (spTr K (m+1)):=by
  intro m GC
  have GT:FnOk P w K mg base CX0 (m+4) f fd ["_law_d","_law_deep_here","_law_names","_law_kinds"] (fun vs H Q E=>∃ j,j+1=m/\spTr K (j+1) vs H Q E):=by
   match m,GC with
   |0,_=>exact ⟨fun _ _ _ _ ⟨n,e,_⟩=>by omega,fun _ _ _ _ _ _ _ _ _ _ _ _ _ ⟨n,e,_⟩=>by omega⟩
   | m+1,GC=>
     have G:=GC m rfl
     exact ⟨fun vs H Q E ⟨n,e,h⟩=>by cases e;exact G.1 vs H Q E h,fun a1 a2 a3 a4 a5 a6 a7 a8 a9 a10 a11 a12 a13 ⟨n,e,h⟩=>by cases e;exact G.2 a1 a2 a3 a4 a5 a6 a7 a8 a9 a10 a11 a12 a13 h⟩
  refine DT.F.ok scTr (fun vs H Q E h=>?_) (fun cdv A outer s H vs Q E hr h=>?_)
  ·obtain ⟨p,dc,q,q',ys,ys',z,rfl,_⟩:=h
   rfl
  ·obtain ⟨p,dc,q,q',ys,ys',z,rfl,hz,D,hq,hq',ne,ne',l,l',nm,nm',k⟩:=h
   have hr1:Room 1 _:=hr.mono (by omega)
   have hr4:Room 4 _:=hr.mono (by omega)
   refine ⟨_,(pss_cons (ps_set (i:=4) scTr.nd rfl (Or.inl rfl) (pe_call GP hr1 rfl DP.mg DP.F.kp DP.b .nil pass0 (pa_cons (pv 0) (pa_cons pe_int pa_nil))))
    (pss_cons (ps_if (PW.pt (pw_or (pt_cmpR op_lt (pv 1) pe_int (nomark _)) (pw_or1 (pt_cmpR op_eq (pv 4) pe_int (nomark _))))) (pss_one (ps_ret (pe_call GL hr4 rfl DL.mg DL.F.kp DL.b .nil pass0 (pa_cons (pv 0) (pa_cons (pv 2) (pa_cons (pv 3) pa_nil)))))) pss_nil)
    (pss_cons (ps_if (pt_cmpR op_eq (pv 4) pe_int (nomark _)) (pss_one (ps_ret (pe_tup (pa_cons pe_str (pa_cons (pe_call GT hr rfl DT.mg DT.F.kp DT.b .nil pass0 (pa_cons (pv 0) (pa_cons (pe_op op_sub (pv 1) pe_int) (pa_cons (pv 2) (pa_cons (pv 3) pa_nil))))) pa_nil))))) pss_nil)
    (pss_cons (ps_set (i:=5) scTr.nd rfl (Or.inl rfl) (pe_ix ix_list (pe_lst (pa_cons pe_str (pa_cons pe_str pa_nil))) (pe_op op_mod (pv 4) pe_int) (fun _ _=>rfl)))
    (pss_one (ps_ret (pe_tup (pa_cons (pv 5) (pa_cons (pe_call GT hr rfl DT.mg DT.F.kp DT.b .nil pass0 (pa_cons (pv 0) (pa_cons (pe_op op_sub (pv 1) pe_int) (pa_cons (pv 2) (pa_cons (pv 3) pa_nil))))) (pa_cons (pe_call GT hr rfl DT.mg DT.F.kp DT.b .nil pass0 (pa_cons (pv 0) (pa_cons (pe_op op_sub (pv 1) pe_int) (pa_cons (pv 2) (pa_cons (pv 3) pa_nil))))) pa_nil)))))))))),?_⟩
   refine ⟨_,rfl,p,dc,_,rfl,D,by decide,by decide,fun w1 H1 w0 w5 D1 b1=>?_⟩
   have hq1:=D.seq b1 hq
   have hq1':=D.seq b1 hq'
   have leaf:tCall (spLe K) [] E0 (tCons (tVar 0) (tCons (tVar 2) (tCons (tVar 3) tNil))) [some (.ref p),some (.int z),some (.ref q),some (.ref q'),some (.int w1),none] H1 Q:=
    ⟨_,rfl,_,rfl,_,rfl,p,dc,q,q',ys,ys',rfl,D1,hq1,hq1',ne,ne',l,l',nm,nm',fun x f r H' rp lf D' b'=>k x _ H' rp (lf.tr.mono (by omega)) D' (b1.trans b')⟩
   refine ⟨_,rfl,_,_,rfl,rfl,_,rfl,ite2 (fun _=>ifT rfl leaf) (fun hz2=>⟨_,rfl,rfl,_,rfl,ite2 (fun _=>leaf) (fun _=>?_)⟩)⟩
   have hz2:¬ z<2:=by simpa using hz2
   obtain ⟨j,rfl⟩:∃ j,m=j+1:=⟨m-1,by omega⟩
   refine ⟨_,rfl,rfl,_,rfl,ite2 (fun _=>?_) (fun _=>?_)⟩
   ·refine ⟨_,rfl,_,rfl,_,_,rfl,rfl,_,rfl,_,rfl,j,rfl,p,dc,q,q',ys,ys',z-1,rfl,by omega,D1,hq1,hq1',ne,ne',l,l',nm,nm',fun x d H2 rx tx D2 b2=>⟨(show 2≤sizeLine by decide),fun t ht=>?_⟩⟩
    exact k _ _ _ (.tup (SqT.of upd_same) (.cons (.str _) (.cons (rx.same (Same.new ht)) .nil))) tx.one (D2.new ht) ((b1.trans b2).trans (But.new ht))
   ·refine ⟨(show 2≤sizeLine by decide),fun l0 hl0=>⟨_,rfl,_,_,rfl,rfl,(by show (0:Int)<2;decide),?_⟩⟩
    have b2:But p H (upd H1 l0 (.lst [.str "and",.str "or"])):=b1.trans (But.new hl0)
    obtain ⟨i,hj,ej⟩:∃ i:Nat,i<2/\w1 % 2=i:=⟨(w1 % 2).toNat,by omega,by omega⟩
    have D2:=D1.new (o:=.lst [.str "and",.str "or"]) hl0
    obtain ⟨f0,hf,ef⟩:∃ f0:Str,(f0 = "and"∨f0 = "or")/\([V.str "and",V.str "or"])[i]?=some (.str f0):=by
     match i,hj with
     |0,_=>exact ⟨"and",.inl rfl,rfl⟩
     |1,_=>exact ⟨"or",.inr rfl,rfl⟩
    refine ⟨l0,_,_,_,rfl,rfl,SqL.of upd_same,(by rw [ej];exact atI_nat ef),_,rfl,?_⟩
    have hq2:=D.seq b2 hq
    have hq2':=D.seq b2 hq'
    refine ⟨_,rfl,_,rfl,_,_,rfl,rfl,_,rfl,_,rfl,j,rfl,p,dc,q,q',ys,ys',z-1,rfl,by omega,D2,hq2,hq2',ne,ne',l,l',nm,nm',fun x d H3 rx tx D3 b3=>?_⟩
    have b3':=b2.trans b3
    refine ⟨_,rfl,_,rfl,_,_,rfl,rfl,_,rfl,_,rfl,j,rfl,p,dc,q,q',ys,ys',z-1,rfl,by omega,D3,D.seq b3' hq,D.seq b3' hq',ne,ne',l,l',nm,nm',fun x2 d2 H4 rx2 tx2 D4 b4=>⟨(show 3≤sizeLine by decide),fun t ht=>?_⟩⟩
    exact k _ _ _ (.tup (SqT.of upd_same) (.cons (.str _) (.cons ((D3.rep b4 rx).same (Same.new ht)) (.cons (rx2.same (Same.new ht)) .nil)))) (tx.two hf tx2) (D4.new ht) ((b3'.trans b4).trans (But.new ht))
 induction n with
 |zero=>exact main 0 (fun n e=>by omega)
 |succ n ih=>exact main (n+1) (fun n' e=>by cases e;exact ih)
end
theorem inS2 (f a b:Str):inV (.str f) [.str a,.str b]=decide (f=a∨f=b):=by
 rw [Bool.eq_iff_iff]
 simp [inV,eqV]
 constructor <;> (rintro (h|h) <;> simp [h])
theorem inS3 (f a b c:Str):inV (.str f) [.str a,.str b,.str c]=decide (f=a∨f=b∨f=c):=by
 rw [Bool.eq_iff_iff]
 simp [inV,eqV]
 constructor <;> (rintro (h|h|h) <;> simp [h])
theorem ar_op (f:Str):decide (f = "not"∨f = "and"∨f = "or")=(arity f).isSome:=by
 unfold arity
 by_cases h1:f = "not"
 ·simp [h1]
 ·by_cases h2:f = "and"
  ·subst h2;decide +kernel
  ·by_cases h3:f = "or"
   ·subst h3;decide +kernel
   ·simp [h1,h2,h3]
theorem deep_dep {d:PyData} (td:TD d):shapeB d=true->deepF d≤pdDep d:=by
 induction td with
 |str a b=>intro h;cases h
 |int a b=>intro h;cases h
 |nil=>intro h;cases h
 | @node f r a b c tr ih=>
   intro sh
   have e:deepF (.tuple (.str f::r))=if (arity f).isSome=true then 1+deeps r else 1:=rfl
   have ep:pdDep (.tuple (.str f::r))=max 0 (pdDeps r)+1:=rfl
   rcases node_of (n:=deepF (.tuple (.str f::r))) sh (by omega) with ⟨ha,_⟩|N
   ·rw [e,ha,ep]
    show 1≤_
    omega
   ·have:∀ l:List PyData,(∀ d∈l,d∈r)->deeps l≤pdDeps l:=by
     intro l
     induction l with
     |nil=>intro _;exact Nat.zero_le _
     | cons d l ihl=>
       intro hm
       have md:=hm d (List.mem_cons_self ..)
       have h1:=ih d md (N.sh d md)
       have h2:=ihl (fun d m=>hm d (List.mem_cons_of_mem _ m))
       show max (deepF d) (deeps l)≤max (pdDep d) (pdDeps l)
       omega
    have:=this r (fun _ m=>m)
    rw [e,N.ar,ep]
    show 1+deeps r≤_
    omega
def isS:PyData->Bool
 |.str _=>true
 |_=>false
def isI:PyData->Bool
 |.int _=>true
 |_=>false
def isTu:PyData->Bool
 |.tuple _=>true
 |_=>false
theorem kit_s {K:Frag} {d:PyData} (td:TD d):kitOne K (.type (tyD d)) (.type "str")=some (isS d):=by cases td <;> rfl
theorem kit_i {K:Frag} {d:PyData} (td:TD d):kitOne K (.type (tyD d)) (.type "int")=some (isI d):=by cases td <;> rfl
theorem kit_t {K:Frag} {d:PyData} (td:TD d):kitOne K (.type (tyD d)) (.type "tuple")=some (isTu d):=by cases td <;> rfl
section
variable {P:Program} {w:World} {K:PySem.W.Frag} {mg:Str->Option Value} {base:Heap}
def spLo (K:Frag):Sp:=fun vs H Q _=>∃ (a:Addr) (f:Str) (r:List PyData),vs=[.ref a]/\Rep K H (.ref a) (.tuple (.str f::r))/\TD (.tuple (.str f::r))/\∀ H',Same H H'->Q (.bl (leafB f r)) H'
theorem scLo:FnScope ["_law_test_here"] ["_law_test_here"] (defScope (top 46)):=⟨rfl,rfl,rfl,by decide +kernel,rfl,by decide +kernel,by decide +kernel⟩
theorem ok_lo {f fN:Addr} {fd fdN:FuncData} (F:Fun K "_law_leaf_ok" "_law_leaf_ok" (top 46) f fd) (T:Txt K mg) (DN:Def K mg "_law_is_name" (top 37) ["_law_text"] fN fdN):FnOk P w K mg base CX0 2 f fd ["_law_test_here"] (spLo K):=by
 have GN:FnOk P w K mg base CX0 1 fN fdN ["_law_text"] spIsNm:=ok_isnm DN.F T
 refine F.ok scLo (fun vs H Q E h=>?_) (fun cdv A outer s H vs Q E hr h=>?_)
 ·obtain ⟨a,f,r,rfl,_⟩:=h
  rfl
 ·obtain ⟨a,f,r,rfl,rd,td,k⟩:=h
  refine ⟨_,(pss_cons (ps_if (pt_cmpR op_eq (pe_ix ix_tup (pv 0) pe_int (fun _ _=>rfl)) pe_str (nomark _)) (pss_one (ps_ret (pe_cmpR op_eq (pe_callB call_len_seq (by rfl) T.len bt_len (pa_cons (pv 0) pa_nil)) pe_int (nomark _)))) pss_nil)
   (pss_cons (ps_if (pt_cmpR op_eq (pe_ix ix_tup (pv 0) pe_int (fun _ _=>rfl)) pe_str (nomark _)) (pss_one (ps_ret (pe_and (pe_cmpR op_eq (pe_callB call_len_seq (by rfl) T.len bt_len (pa_cons (pv 0) pa_nil)) pe_int (nomark _)) (pe_and (pe_callB call_isT (by rfl) T.isinstance bt_isinstance (pa_cons (pe_ix ix_tup (pv 0) pe_int (fun _ _=>rfl)) (pa_cons (pe_ty rfl T.str bt_str) pa_nil))) (pe_one (pe_call GN hr rfl DN.mg DN.F.kp DN.b .nil pass0 (pa_cons (pe_ix ix_tup (pv 0) pe_int (fun _ _=>rfl)) pa_nil))))))) pss_nil)
   (pss_cons (ps_if (PW.pt (pw_or (pt_cmpR op_notIn_seq (pe_ix ix_tup (pv 0) pe_int (fun _ _=>rfl)) (pe_tup (pa_cons pe_str (pa_cons pe_str pa_nil))) rfl) (pw_or1 (pt_cmpR op_ne (pe_callB call_len_seq (by rfl) T.len bt_len (pa_cons (pv 0) pa_nil)) pe_int (nomark _))))) (pss_one (ps_ret pe_bl)) pss_nil)
   (pss_cons (ps_if (PW.pt (pw_or (pt_not (pt_val (pe_callB call_isT (by rfl) T.isinstance bt_isinstance (pa_cons (pe_ix ix_tup (pv 0) pe_int (fun _ _=>rfl)) (pa_cons (pe_ty rfl T.str bt_str) pa_nil))))) (pw_or1 (pt_not (pt_val (pe_call GN hr rfl DN.mg DN.F.kp DN.b .nil pass0 (pa_cons (pe_ix ix_tup (pv 0) pe_int (fun _ _=>rfl)) pa_nil))))))) (pss_one (ps_ret pe_bl)) pss_nil)
   (pss_one (ps_ret (pe_and (pe_callB call_isT (by rfl) T.isinstance bt_isinstance (pa_cons (pe_ix ix_tup (pv 0) pe_int (fun _ _=>rfl)) (pa_cons (pe_ty rfl T.int bt_int) pa_nil))) (pe_one (pe_chain op_le op_le (pe_un un_neg pe_int) (pe_ix ix_tup (pv 0) pe_int (fun _ _=>rfl)) pe_int))))))))),?_⟩
  cases td with
  |node af lf nr tr=>
  cases rd with
  |@tup _ xs _ sq rs=>
  obtain ⟨x0,ys,rfl⟩:∃ x0 ys,xs=x0::ys:=by cases rs;exact ⟨_,_,rfl⟩
  obtain ⟨r0,rt⟩:Rep K H x0 (.str f)/\Reps K H ys r:=by cases rs with|cons a b=>exact ⟨a,b⟩
  cases r0
  have hl:=rt.length
  refine ⟨_,rfl,a,_,_,_,rfl,rfl,sq,atI_nat (j:=0) rfl,rfl,_,rfl,?_⟩
  unfold leafB at k
  by_cases h1:f = "all"
  ·subst h1
   rw [if_pos rfl] at k
   refine ifT (by simp) ⟨_,rfl,a,_,rfl,.inr sq,rfl,?_⟩
   have e:decide (V.int ((V.str "all"::ys).length:Nat)=V.int 1)=r.isEmpty:=by
    rw [Bool.eq_iff_iff,decide_eq_true_eq,List.isEmpty_iff,List.length_cons,V.int.injEq]
    constructor
    ·intro h
     exact List.length_eq_zero_iff.mp (by omega)
    ·rintro rfl
     simp at hl
     simp [hl]
   rw [e]
   exact k _ (Same.refl _)
  ·rw [if_neg h1] at k
   refine ifF (by simp [h1]) ⟨_,rfl,a,_,_,_,rfl,rfl,sq,atI_nat (j:=0) rfl,rfl,_,rfl,?_⟩
   by_cases h2:f = "is"
   ·subst h2
    rw [if_pos rfl] at k
    refine ifT (by simp) ⟨_,rfl,a,_,rfl,.inr sq,rfl,_,rfl,?_⟩
    match r,ys,rt,k,hl,tr with
    |[],[],_,k,_,_=>exact ifF (by simp) (k _ (Same.refl _))
    | [d],[y],.cons ry .nil,k,_,tr=>
      have tdd:=tr d (List.mem_cons_self ..)
      refine ifT (by simp) ⟨_,rfl,a,_,_,_,rfl,rfl,sq,atI_nat (j:=1) rfl,_,_,_,_,rfl,ry,kit_s tdd,_,rfl,?_⟩
      cases tdd with
      | @str z az lz=>
        cases ry
        exact ifT rfl ⟨_,rfl,a,_,_,_,rfl,rfl,sq,atI_nat (j:=1) rfl,z,rfl,by omega,az,fun H' s'=>k _ s'⟩
      |int _ _=>exact ifF rfl (k _ (Same.refl _))
      |nil=>exact ifF rfl (k _ (Same.refl _))
      |node _ _ _ _=>exact ifF rfl (k _ (Same.refl _))
    |_::_::_,_::_::_,_,k,_,_=>exact ifF (by simp;omega) (k _ (Same.refl _))
   ·rw [if_neg h2] at k
    refine ifF (by simp [h2]) ⟨_,rfl,a,_,_,_,rfl,rfl,sq,atI_nat (j:=0) rfl,(show 2≤sizeLine by decide),fun t ht=>?_⟩
    have s1:Same H (upd H t (.tup [.str "less",.str "same"])):=Same.new ht
    refine ⟨t,_,rfl,.inr (SqT.of upd_same),rfl,rfl,_,rfl,?_⟩
    rw [inS2]
    have sq1:=s1.tup sq
    have rt1:=rt.same s1
    generalize upd H t (.tup [.str "less",.str "same"])=H1 at s1 sq1 rt1 ⊢
    by_cases h3:f = "less"∨f = "same"
    ·rw [decide_eq_true h3,Bool.true_and] at k
     refine ifF (by simp [h3]) ⟨_,rfl,a,_,rfl,.inr sq1,rfl,_,rfl,?_⟩
     match r,ys,rt1,k,hl,tr with
     |[],[],_,k,_,_=>exact ifT (by simp) (k _ s1)
     |[d],[y],_,k,_,_=>exact ifT (by simp) (k _ s1)
     | [d,d2],[y,y2],.cons ry (.cons ry2 .nil),k,_,tr=>
       have k:∀ H',Same H H'->Q (.bl (wordB d && numB d2)) H':=k
       have tdd:=tr d (List.mem_cons_self ..)
       have tdd2:=tr d2 (List.mem_cons_of_mem _ (List.mem_cons_self ..))
       refine ifF (by simp) ⟨_,rfl,a,_,_,_,rfl,rfl,sq1,atI_nat (j:=1) rfl,_,_,_,_,rfl,ry,kit_s tdd,_,rfl,?_⟩
       cases tdd with
       | @str z az lz=>
         cases ry
         refine ifF rfl ⟨_,rfl,a,_,_,_,rfl,rfl,sq1,atI_nat (j:=1) rfl,z,rfl,by omega,az,fun H2 s2=>⟨_,rfl,?_⟩⟩
         have sq2:=s2.tup sq1
         have ry3:=ry2.same s2
         have k:∀ H',Same H H'->Q (.bl (nameB z && numB d2)) H':=k
         cases hw:nameB z with
         |false=>rw [hw] at k;exact ifT rfl (k _ (s1.trans s2))
         | true=>
           rw [hw,Bool.true_and] at k
           refine ifF rfl ⟨_,rfl,a,_,_,_,rfl,rfl,sq2,atI_nat (j:=2) rfl,_,_,_,_,rfl,ry3,kit_i tdd2,_,rfl,?_⟩
           have k:=k _ (s1.trans s2)
           cases tdd2 with
           | @int i i1 i2=>
             cases ry3
             refine ifT rfl ?_
             refine ⟨_,rfl,_,rfl,a,_,_,_,rfl,rfl,sq2,atI_nat (j:=2) rfl,_,_,rfl,rfl,_,rfl,?_⟩
             have k:Q (.bl (decide (-999999≤i) && decide (i≤999999))) H2:=k
             by_cases q1:-999999≤i
             ·rw [decide_eq_true q1,Bool.true_and] at k
              exact ifT (by simpa using q1) ⟨_,_,rfl,rfl,k⟩
             ·rw [decide_eq_false q1,Bool.false_and] at k
              exact ifF (by simpa using q1) k
           |str _ _=>exact ifF rfl k
           |nil=>exact ifF rfl k
           |node _ _ _ _=>exact ifF rfl k
       |int _ _=>exact ifT rfl (k _ s1)
       |nil=>exact ifT rfl (k _ s1)
       |node _ _ _ _=>exact ifT rfl (k _ s1)
     |_::_::_::_,_::_::_::_,_,k,_,_=>exact ifT (by simp;omega) (k _ s1)
    ·rw [decide_eq_false h3,Bool.false_and] at k
     exact ifT (by simp [h3]) (k _ s1)
end
theorem dep_mem {f:Str} {r:List PyData} {d:PyData} {n:Nat} (h:pdDep (.tuple (.str f::r))≤n+1) (m:d∈r):pdDep d≤n:=by
 have:=pdDep_le m
 have h:max 0 (pdDeps r)+1≤n+1:=h
 omega
theorem parts_lt {n:Nat} {d:PyData} (sh:shapeB d=true) (h:deepF d≤n):partsF d+1≤2 ^ n:=by
 have:=cnt_lt n d
 rw [cnt_eq,if_pos ⟨sh,h⟩] at this
 exact this
theorem max_deeps {r:List PyData} {b:Int} (h1:1≤r.length/\r.length≤2) (hb:b∈r.map fun d=>((deepF d:Nat):Int)) (hm:∀ x∈r.map fun d=>((deepF d:Nat):Int),x≤b):b=((deeps r:Nat):Int):=by
 match r,h1 with
 | [x],_=>
   have e:deeps [x]=max (deepF x) 0:=rfl
   simp at hb
   rw [hb,e];omega
 | [x,y],_=>
   have e:deeps [x,y]=max (deepF x) (max (deepF y) 0):=rfl
   have q1:=hm (deepF x) (by simp)
   have q2:=hm (deepF y) (by simp)
   simp at hb
   rw [e]
   rcases hb with rfl|rfl <;> omega
 |[],h=>exact absurd h.1 (by simp)
 |_::_::_::_,h=>exact absurd h.2 (by simp)
section
variable {P:Program} {w:World} {K:PySem.W.Frag} {mg:Str->Option Value} {base:Heap}
def spSo (K:Frag) (n:Nat):Sp:=fun vs H Q _=>∃ (x:V) (d:PyData),vs=[x]/\Rep K H x d/\TD d/\pdDep d≤n/\∀ H',Same H H'->Q (.bl (shapeB d)) H'
theorem scSo:FnScope ["_law_test_here"] ["_law_test_here"] (defScope (top 47)):=⟨rfl,rfl,rfl,by decide +kernel,rfl,by decide +kernel,by decide +kernel⟩
theorem ok_so {f fL fN:Addr} {fd fdL fdN:FuncData} (DS:Def K mg "_law_shape_ok" (top 47) ["_law_test_here"] f fd) (T:Txt K mg) (DN:Def K mg "_law_is_name" (top 37) ["_law_text"] fN fdN) (DL:Def K mg "_law_leaf_ok" (top 46) ["_law_test_here"] fL fdL) (n:Nat):FnOk P w K mg base CX0 (n+3) f fd ["_law_test_here"] (spSo K n):=by
 have GL:FnOk P w K mg base CX0 2 fL fdL ["_law_test_here"] (spLo K):=ok_lo DL.F T DN
 have main:∀ m:Nat,(∀ j,j+1=m->FnOk P w K mg base CX0 (j+3) f fd ["_law_test_here"] (spSo K j))->FnOk P w K mg base CX0 (m+3) f fd ["_law_test_here"] (spSo K m):=by
  intro m GC
  have GS:FnOk P w K mg base CX0 (m+2) f fd ["_law_test_here"] (fun vs H Q E=>∃ j,j+1=m/\spSo K j vs H Q E):=by
   match m,GC with
   |0,_=>exact ⟨fun _ _ _ _ ⟨n,e,_⟩=>by omega,fun _ _ _ _ _ _ _ _ _ _ _ _ _ ⟨n,e,_⟩=>by omega⟩
   | m+1,GC=>
     have G:=GC m rfl
     exact ⟨fun vs H Q E ⟨n,e,h⟩=>by cases e;exact G.1 vs H Q E h,fun a1 a2 a3 a4 a5 a6 a7 a8 a9 a10 a11 a12 a13 ⟨n,e,h⟩=>by cases e;exact G.2 a1 a2 a3 a4 a5 a6 a7 a8 a9 a10 a11 a12 a13 h⟩
  refine DS.F.ok scSo (fun vs H Q E h=>?_) (fun cdv A outer s H vs Q E hr h=>?_)
  ·obtain ⟨x,d,rfl,_⟩:=h
   rfl
  ·obtain ⟨x,d,rfl,rd,td,hd,k⟩:=h
   have hr2:Room 2 _:=hr.mono (by omega)
   refine ⟨_,(pss_cons (ps_if (PW.pt (pw_or (pt_not (pt_val (pe_callB call_isT (by rfl) T.isinstance bt_isinstance (pa_cons (pv 0) (pa_cons (pe_ty rfl T.tuple bt_tuple) pa_nil))))) (pw_or1 (pt_cmpR op_eq (pe_callB call_len_seq (by rfl) T.len bt_len (pa_cons (pv 0) pa_nil)) pe_int (nomark _))))) (pss_one (ps_ret pe_bl)) pss_nil)
    (pss_cons (ps_if (pt_cmpR op_in_seq (pe_ix ix_tup (pv 0) pe_int (fun _ _=>rfl)) (pe_tup (pa_cons pe_str (pa_cons pe_str pa_nil))) rfl) (pss_one (ps_ret (pe_and (pe_cmpR op_eq (pe_callB call_len_seq (by rfl) T.len bt_len (pa_cons (pv 0) pa_nil)) pe_int (nomark _)) (pe_and (pe_call GS hr rfl DS.mg DS.F.kp DS.b .nil pass0 (pa_cons (pe_ix ix_tup (pv 0) pe_int (fun _ _=>rfl)) pa_nil)) (pe_one (pe_call GS hr rfl DS.mg DS.F.kp DS.b .nil pass0 (pa_cons (pe_ix ix_tup (pv 0) pe_int (fun _ _=>rfl)) pa_nil))))))) pss_nil)
    (pss_cons (ps_if (pt_cmpR op_eq (pe_ix ix_tup (pv 0) pe_int (fun _ _=>rfl)) pe_str (nomark _)) (pss_one (ps_ret (pe_and (pe_cmpR op_eq (pe_callB call_len_seq (by rfl) T.len bt_len (pa_cons (pv 0) pa_nil)) pe_int (nomark _)) (pe_one (pe_call GS hr rfl DS.mg DS.F.kp DS.b .nil pass0 (pa_cons (pe_ix ix_tup (pv 0) pe_int (fun _ _=>rfl)) pa_nil)))))) pss_nil)
    (pss_one (ps_ret (pe_call GL hr2 rfl DL.mg DL.F.kp DL.b .nil pass0 (pa_cons (pv 0) pa_nil))))))),?_⟩
   refine ⟨_,rfl,_,_,_,_,rfl,rd,kit_t td,_,rfl,?_⟩
   cases td with
   |str a l=>exact ifT rfl (ifT rfl (k _ (Same.refl _)))
   |int a b=>exact ifT rfl (ifT rfl (k _ (Same.refl _)))
   | nil=>
     cases rd with
     |@tup a xs _ sq rs=>
     cases rs
     exact ifF rfl ⟨_,rfl,a,_,rfl,.inr sq,rfl,_,rfl,ifT (by simp) (k _ (Same.refl _))⟩
   |@node f r af lf nr tr=>
   obtain ⟨n,rfl⟩:∃ n,m=n+1:=⟨m-1,by have h:max 0 (pdDeps r)+1≤m:=hd;omega⟩
   have rd0:=rd
   cases rd with
   |@tup a xs _ sq rs=>
   obtain ⟨x0,ys,rfl⟩:∃ x0 ys,xs=x0::ys:=by cases rs;exact ⟨_,_,rfl⟩
   obtain ⟨r0,rt⟩:Rep K H x0 (.str f)/\Reps K H ys r:=by cases rs with|cons a b=>exact ⟨a,b⟩
   cases r0
   have hl:=rt.length
   refine ifF rfl ⟨_,rfl,a,_,rfl,.inr sq,rfl,_,rfl,ifF (by simp;omega) ?_⟩
   refine ⟨_,rfl,a,_,_,_,rfl,rfl,sq,atI_nat (j:=0) rfl,(show 2≤sizeLine by decide),fun t ht=>?_⟩
   have s1:Same H (upd H t (.tup [.str "and",.str "or"])):=Same.new ht
   refine ⟨t,_,rfl,.inr (SqT.of upd_same),rfl,rfl,_,rfl,?_⟩
   rw [inS2]
   have sq1:=s1.tup sq
   have rt1:=rt.same s1
   have rd1:=rd0.same s1
   generalize upd H t (.tup [.str "and",.str "or"])=H1 at s1 sq1 rt1 rd1 ⊢
   unfold shapeB at k
   by_cases h1:f = "and"∨f = "or"
   ·rw [if_pos h1] at k
    refine ifT (by simp [h1]) ⟨_,rfl,a,_,rfl,.inr sq1,rfl,_,rfl,?_⟩
    match r,ys,rt1,k,hl,tr,hd with
    |[],[],_,k,_,_,_=>exact ifF (by simp) (k _ s1)
    |[_],[_],_,k,_,_,_=>exact ifF (by simp) (k _ s1)
    | [d,e],[y,z],.cons ry (.cons rz .nil),k,_,tr,hd=>
      have k:∀ H',Same H H'->Q (.bl (true && (shapeB d && (shapeB e && true)))) H':=k
      refine ifT (by simp) ⟨_,rfl,a,_,_,_,rfl,rfl,sq1,atI_nat (j:=1) rfl,n,rfl,y,d,rfl,ry,tr d (by simp),dep_mem hd (by simp),fun H2 s2=>⟨_,rfl,?_⟩⟩
      rw [Bool.true_and,Bool.and_true] at k
      cases hs:shapeB d with
      |false=>rw [hs] at k;exact ifF rfl (k _ (s1.trans s2))
      | true=>
        rw [hs,Bool.true_and] at k
        exact ifT rfl ⟨_,rfl,a,_,_,_,rfl,rfl,s2.tup sq1,atI_nat (j:=2) rfl,n,rfl,z,e,rfl,rz.same s2,tr e (by simp),dep_mem hd (by simp),fun H3 s3=>k _ ((s1.trans s2).trans s3)⟩
    |_::_::_::_,_::_::_::_,_,k,_,_,_=>exact ifF (by simp;omega) (k _ s1)
   ·rw [if_neg h1] at k
    refine ifF (by simp [h1]) ⟨_,rfl,a,_,_,_,rfl,rfl,sq1,atI_nat (j:=0) rfl,rfl,_,rfl,?_⟩
    by_cases h2:f = "not"
    ·rw [if_pos h2] at k
     refine ifT (by simp [h2]) ⟨_,rfl,a,_,rfl,.inr sq1,rfl,_,rfl,?_⟩
     match r,ys,rt1,k,hl,tr,hd with
     |[],[],_,k,_,_,_=>exact ifF (by simp) (k _ s1)
     | [d],[y],.cons ry .nil,k,_,tr,hd=>
       have k:∀ H',Same H H'->Q (.bl (true && (shapeB d && true))) H':=k
       rw [Bool.true_and,Bool.and_true] at k
       exact ifT (by simp) ⟨_,rfl,a,_,_,_,rfl,rfl,sq1,atI_nat (j:=1) rfl,n,rfl,y,d,rfl,ry,tr d (by simp),dep_mem hd (by simp),fun H2 s2=>k _ (s1.trans s2)⟩
     |_::_::_,_::_::_,_,k,_,_,_=>exact ifF (by simp;omega) (k _ s1)
    ·rw [if_neg h2] at k
     exact ifF (by simp [h2]) ⟨_,rfl,a,f,r,rfl,rd1,.node af lf nr tr,fun H2 s2=>k _ (s1.trans s2)⟩
 induction n with
 |zero=>exact main 0 (fun n e=>by omega)
 |succ n ih=>exact main (n+1) (fun n' e=>by cases e;exact ih)
def spPa (K:Frag) (g:PyData->Nat) (n:Nat):Sp:=fun vs H Q _=>∃ (x:V) (d:PyData),vs=[x]/\Rep K H x d/\TD d/\shapeB d=true/\deepF d≤n/\n≤10/\∀ H',Same H H'->Q (.int (g d:Nat)) H'
theorem scPa:FnScope ["_law_test_here"] ["_law_test_here"] (defScope (top 43)):=⟨rfl,rfl,rfl,by decide +kernel,rfl,by decide +kernel,by decide +kernel⟩
theorem scDe:FnScope ["_law_test_here"] ["_law_test_here"] (defScope (top 44)):=⟨rfl,rfl,rfl,by decide +kernel,rfl,by decide +kernel,by decide +kernel⟩
theorem ok_pa {f:Addr} {fd:FuncData} (DL:Def K mg "_law_parts" (top 43) ["_law_test_here"] f fd) (hsum:mg "sum" = none) (n:Nat):FnOk P w K mg base CX0 n f fd ["_law_test_here"] (spPa K partsF n):=by
 refine Nat.rec (motive:=fun n=>FnOk P w K mg base CX0 n f fd ["_law_test_here"] (spPa K partsF n)) ⟨fun _ _ _ _ h=>?_,fun _ _ _ _ _ _ _ _ _ _ _ _ _ h=>?_⟩ (fun n GL=>?_) n
 ·obtain ⟨x,d,_,_,_,_,hd,_⟩:=h
  exact absurd (Nat.le_trans (deep_pos d) hd) (by decide)
 ·obtain ⟨x,d,_,_,_,_,hd,_⟩:=h
  exact absurd (Nat.le_trans (deep_pos d) hd) (by decide)
 refine DL.F.ok scPa (fun vs H Q E h=>?_) (fun cdv A outer s H vs Q E hr h=>?_)
 ·obtain ⟨x,d,rfl,_⟩:=h
  rfl
 ·obtain ⟨x,d,rfl,rd,td,sh,hd,hn,k⟩:=h
  refine ⟨_,(pss_cons (ps_if (pt_cmpR op_notIn_seq (pe_ix ix_tup (pv 0) pe_int (fun _ _=>rfl)) (pe_tup (pa_cons pe_str (pa_cons pe_str (pa_cons pe_str pa_nil)))) rfl) (pss_one (ps_ret pe_int)) pss_nil)
   (pss_one (ps_ret (pe_op op_add pe_int (pe_callB (call_sumL rfl) (by rfl) hsum bt_sum (pa_cons (pe_comp (g:=gName 0) (own:=["_law_part"]) (js:=[]) (N':=["_law_part"]) (CompScope.of (osc:=defScope (top 43)) (N:=["_law_test_here"]) rfl rfl ⟨rfl,by decide +kernel,by decide +kernel,by decide +kernel,rfl,by decide +kernel⟩) rfl (pi_tup (pe_slice sl_tupW (pv 0) (po_some pe_int) po_none)) (fun _ _ _ _ _=>(pg_name (i:=0) (show List.Nodup (["_law_part"]:List Str) by decide +kernel) rfl (Or.inl rfl) (Or.inr rfl))) (fun _ _ _ _ _=>pifs_nil) (fun _ _ _ _ _=>pe_call GL hr rfl DL.mg DL.F.kp DL.b .nil pass0 (pa_cons (pv 0) pa_nil))) pa_nil)))))),?_⟩
  obtain ⟨f,r,rfl⟩:=shape_tuple td sh
  cases td with
  |node af lf nr tr=>
  cases rd with
  |@tup a xs _ sq rs=>
  obtain ⟨x0,ys,rfl⟩:∃ x0 ys,xs=x0::ys:=by cases rs;exact ⟨_,_,rfl⟩
  obtain ⟨r0,rt⟩:Rep K H x0 (.str f)/\Reps K H ys r:=by cases rs with|cons a b=>exact ⟨a,b⟩
  cases r0
  have hl:=rt.length
  refine ⟨_,rfl,a,_,_,_,rfl,rfl,sq,atI_nat (j:=0) rfl,(show 3≤sizeLine by decide),fun t ht=>?_⟩
  have s0:Same H (upd H t (.tup [.str "not",.str "and",.str "or"])):=Same.new ht
  refine ⟨t,_,rfl,.inr (SqT.of upd_same),rfl,rfl,_,rfl,?_⟩
  rw [inS3,ar_op]
  have sq0:=s0.tup sq
  have rt0:=rt.same s0
  generalize upd H t (.tup [.str "not",.str "and",.str "or"])=H0 at s0 sq0 rt0 ⊢
  have e:partsF (.tuple (.str f::r))=if (arity f).isSome=true then 1+partss r else 1:=rfl
  rw [e] at k
  rcases node_of sh hd with ⟨ha,hlf⟩|N
  ·rw [ha] at k ⊢
   exact ifT rfl (k _ s0)
  ·rw [N.ar] at k ⊢
   have k:∀ H',Same H H'->Q (.int (1+partss r:Nat)) H':=k
   have a2:=arity_le N.ar
   refine ifF rfl ⟨_,rfl,1,rfl,a,_,rfl,sq0,(fun e=>?_),fun p hp=>?_⟩
   ·rw [cut1] at e
    have:=congrArg List.length e
    simp at this
   ·rw [cut1]
    have sp:SqT K (upd H0 p (.tup ys)) p ys:=SqT.of upd_same
    have s1:Same H0 (upd H0 p (.tup ys)):=Same.new hp
    generalize upd H0 p (.tup ys)=H1 at sp s1 ⊢
    refine ⟨p,rfl,⟨_,sp⟩,?_⟩
    refine comp_tup (K:=K) (a:=p) (xs:=ys) (fun i zs σ' H'=>(∃ v,σ'=[v])/\Same H1 H'/\zs=((r.take i).map fun d=>V.int (partsF d:Nat))) (Nat.le_trans (show ys.length≤20 by omega) (by decide)) ⟨⟨none,rfl⟩,Same.refl _,rfl⟩ (fun i zs σ' H' _ ⟨_,s2,_⟩=>s2.tup sp) ?_ ?_
    ·rintro i y zs σ' H2 hy hzs ⟨⟨v,rfl⟩,s2,rfl⟩ N' hN
     obtain ⟨d,hd,ry⟩:=rt0.get' hy
     have me:=List.mem_of_getElem? hd
     refine ⟨_,rfl,y,d,rfl,ry.same (s1.trans s2),tr d me,N.sh d me,N.de d me,by omega,fun H3 s3=>?_⟩
     exact hN _ _ _ (by rw [List.length_append,hzs];rfl) ⟨⟨_,rfl⟩,s2.trans s3,by rw [List.take_add_one,hd];simp⟩
    ·rintro zs σ' H2 hzs ⟨⟨v,rfl⟩,s2,rfl⟩
     rw [List.take_of_length_le (by omega)]
     have lr:(r.map fun d=>V.int (partsF d:Nat)).length≤20:=by rw [List.length_map];exact nr
     refine ⟨Nat.le_trans lr (by decide),fun q hq=>?_⟩
     have s3:Same H (upd H2 q (.lst (r.map fun d=>V.int (partsF d:Nat)))):=((s0.trans s1).trans s2).trans (Same.new hq)
     refine ⟨q,r.map fun d=>((partsF d:Nat):Int),rfl,by rw [List.map_map];exact SqL.of upd_same,by rw [List.length_map];omega,fun x hx=>?_,_,_,rfl,rfl,?_⟩
     ·obtain ⟨d,md,rfl⟩:=List.mem_map.mp hx
      have:=parts_lt (N.sh d md) (N.de d md)
      have p20:2 ^ n≤2 ^ 10:=Nat.pow_le_pow_right (by decide) (by omega)
      have:(2:Nat) ^ 10=1024:=by decide
      omega
     ·have es:(r.map partsF).sum=partss r:=by
       clear k lr s3 hq
       have:∀ l:List PyData,(l.map partsF).sum=partss l:=by
        intro l
        induction l with
        |nil=>rfl
        |cons d l ih=>rw [List.map_cons,List.sum_cons,ih];rfl
       exact this r
      rw [sum_cast,es]
      have:=k _ s3
      rw [show ((1+partss r:Nat):Int)=1+((partss r:Nat):Int) by omega] at this
      exact this
theorem ok_de {f:Addr} {fd:FuncData} (DL:Def K mg "_law_deep" (top 44) ["_law_test_here"] f fd) (hmax:mg "max" = none) (n:Nat):FnOk P w K mg base CX0 n f fd ["_law_test_here"] (spPa K deepF n):=by
 refine Nat.rec (motive:=fun n=>FnOk P w K mg base CX0 n f fd ["_law_test_here"] (spPa K deepF n)) ⟨fun _ _ _ _ h=>?_,fun _ _ _ _ _ _ _ _ _ _ _ _ _ h=>?_⟩ (fun n GL=>?_) n
 ·obtain ⟨x,d,_,_,_,_,hd,_⟩:=h
  exact absurd (Nat.le_trans (deep_pos d) hd) (by decide)
 ·obtain ⟨x,d,_,_,_,_,hd,_⟩:=h
  exact absurd (Nat.le_trans (deep_pos d) hd) (by decide)
 refine DL.F.ok scDe (fun vs H Q E h=>?_) (fun cdv A outer s H vs Q E hr h=>?_)
 ·obtain ⟨x,d,rfl,_⟩:=h
  rfl
 ·obtain ⟨x,d,rfl,rd,td,sh,hd,hn,k⟩:=h
  refine ⟨_,(pss_cons (ps_if (pt_cmpR op_notIn_seq (pe_ix ix_tup (pv 0) pe_int (fun _ _=>rfl)) (pe_tup (pa_cons pe_str (pa_cons pe_str (pa_cons pe_str pa_nil)))) rfl) (pss_one (ps_ret pe_int)) pss_nil)
   (pss_one (ps_ret (pe_op op_add pe_int (pe_callB (call_maxL rfl) (by rfl) hmax bt_max (pa_cons (pe_comp (g:=gName 0) (own:=["_law_part"]) (js:=[]) (N':=["_law_part"]) (CompScope.of (osc:=defScope (top 44)) (N:=["_law_test_here"]) rfl rfl ⟨rfl,by decide +kernel,by decide +kernel,by decide +kernel,rfl,by decide +kernel⟩) rfl (pi_tup (pe_slice sl_tupW (pv 0) (po_some pe_int) po_none)) (fun _ _ _ _ _=>(pg_name (i:=0) (show List.Nodup (["_law_part"]:List Str) by decide +kernel) rfl (Or.inl rfl) (Or.inr rfl))) (fun _ _ _ _ _=>pifs_nil) (fun _ _ _ _ _=>pe_call GL hr rfl DL.mg DL.F.kp DL.b .nil pass0 (pa_cons (pv 0) pa_nil))) pa_nil)))))),?_⟩
  obtain ⟨f,r,rfl⟩:=shape_tuple td sh
  cases td with
  |node af lf nr tr=>
  cases rd with
  |@tup a xs _ sq rs=>
  obtain ⟨x0,ys,rfl⟩:∃ x0 ys,xs=x0::ys:=by cases rs;exact ⟨_,_,rfl⟩
  obtain ⟨r0,rt⟩:Rep K H x0 (.str f)/\Reps K H ys r:=by cases rs with|cons a b=>exact ⟨a,b⟩
  cases r0
  have hl:=rt.length
  refine ⟨_,rfl,a,_,_,_,rfl,rfl,sq,atI_nat (j:=0) rfl,(show 3≤sizeLine by decide),fun t ht=>?_⟩
  have s0:Same H (upd H t (.tup [.str "not",.str "and",.str "or"])):=Same.new ht
  refine ⟨t,_,rfl,.inr (SqT.of upd_same),rfl,rfl,_,rfl,?_⟩
  rw [inS3,ar_op]
  have sq0:=s0.tup sq
  have rt0:=rt.same s0
  generalize upd H t (.tup [.str "not",.str "and",.str "or"])=H0 at s0 sq0 rt0 ⊢
  have e:deepF (.tuple (.str f::r))=if (arity f).isSome=true then 1+deeps r else 1:=rfl
  rw [e] at k
  rcases node_of sh hd with ⟨ha,hlf⟩|N
  ·rw [ha] at k ⊢
   exact ifT rfl (k _ s0)
  ·rw [N.ar] at k ⊢
   have k:∀ H',Same H H'->Q (.int (1+deeps r:Nat)) H':=k
   have a2:=arity_le N.ar
   refine ifF rfl ⟨_,rfl,1,rfl,a,_,rfl,sq0,(fun e=>?_),fun p hp=>?_⟩
   ·rw [cut1] at e
    have:=congrArg List.length e
    simp at this
   ·rw [cut1]
    have sp:SqT K (upd H0 p (.tup ys)) p ys:=SqT.of upd_same
    have s1:Same H0 (upd H0 p (.tup ys)):=Same.new hp
    generalize upd H0 p (.tup ys)=H1 at sp s1 ⊢
    refine ⟨p,rfl,⟨_,sp⟩,?_⟩
    refine comp_tup (K:=K) (a:=p) (xs:=ys) (fun i zs σ' H'=>(∃ v,σ'=[v])/\Same H1 H'/\zs=((r.take i).map fun d=>V.int (deepF d:Nat))) (Nat.le_trans (show ys.length≤20 by omega) (by decide)) ⟨⟨none,rfl⟩,Same.refl _,rfl⟩ (fun i zs σ' H' _ ⟨_,s2,_⟩=>s2.tup sp) ?_ ?_
    ·rintro i y zs σ' H2 hy hzs ⟨⟨v,rfl⟩,s2,rfl⟩ N' hN
     obtain ⟨d,hd,ry⟩:=rt0.get' hy
     have me:=List.mem_of_getElem? hd
     refine ⟨_,rfl,y,d,rfl,ry.same (s1.trans s2),tr d me,N.sh d me,N.de d me,by omega,fun H3 s3=>?_⟩
     exact hN _ _ _ (by rw [List.length_append,hzs];rfl) ⟨⟨_,rfl⟩,s2.trans s3,by rw [List.take_add_one,hd];simp⟩
    ·rintro zs σ' H2 hzs ⟨⟨v,rfl⟩,s2,rfl⟩
     rw [List.take_of_length_le (by omega)]
     have lr:(r.map fun d=>V.int (deepF d:Nat)).length≤20:=by rw [List.length_map];exact nr
     refine ⟨Nat.le_trans lr (by decide),fun q hq=>?_⟩
     have s3:Same H (upd H2 q (.lst (r.map fun d=>V.int (deepF d:Nat)))):=((s0.trans s1).trans s2).trans (Same.new hq)
     refine ⟨q,r.map fun d=>((deepF d:Nat):Int),rfl,by rw [List.map_map];exact SqL.of upd_same,?_,fun b hb hm=>⟨_,_,rfl,rfl,?_⟩⟩
     ·intro z
      have:=congrArg List.length z
      rw [List.length_map] at this
      simp at this
      rw [this] at a2
      simp at a2
     ·rw [max_deeps a2 hb hm]
      have:=k _ s3
      rw [show ((1+deeps r:Nat):Int)=1+((deeps r:Nat):Int) by omega] at this
      exact this
def spTo (K:Frag):Sp:=fun vs H Q _=>∃ (x:V) (d:PyData),vs=[x]/\Rep K H x d/\TD d/\pdDep d≤8/\∀ H',Same H H'->Q (.bl (testB d)) H'
theorem scTo:FnScope ["_law_test_here"] ["_law_test_here"] (defScope (top 48)):=⟨rfl,rfl,rfl,by decide +kernel,rfl,by decide +kernel,by decide +kernel⟩
theorem ok_to {f fS fD fP:Addr} {fd fdS fdD fdP:FuncData} (F:Fun K "_law_test_ok" "_law_test_ok" (top 48) f fd) (DS:Def K mg "_law_shape_ok" (top 47) ["_law_test_here"] fS fdS) (GS:FnOk P w K mg base CX0 11 fS fdS ["_law_test_here"] (spSo K 8))
 (DD:Def K mg "_law_deep" (top 44) ["_law_test_here"] fD fdD) (GD:FnOk P w K mg base CX0 8 fD fdD ["_law_test_here"] (spPa K deepF 8)) (DP:Def K mg "_law_parts" (top 43) ["_law_test_here"] fP fdP) (GP:FnOk P w K mg base CX0 8 fP fdP ["_law_test_here"] (spPa K partsF 8)):FnOk P w K mg base CX0 12 f fd ["_law_test_here"] (spTo K):=by
 refine F.ok scTo (fun vs H Q E h=>?_) (fun cdv A outer s H vs Q E hr h=>?_)
 ·obtain ⟨x,d,rfl,_⟩:=h
  rfl
 ·obtain ⟨x,d,rfl,rd,td,hd,k⟩:=h
  have hr8:Room 8 _:=hr.mono (by decide)
  refine ⟨_,(pss_one (ps_ret (pe_and (pe_call GS hr rfl DS.mg DS.F.kp DS.b .nil pass0 (pa_cons (pv 0) pa_nil)) (pe_and (pe_cmpR op_le (pe_call GD hr8 rfl DD.mg DD.F.kp DD.b .nil pass0 (pa_cons (pv 0) pa_nil)) pe_int (nomark _)) (pe_one (pe_cmpR op_le (pe_call GP hr8 rfl DP.mg DP.F.kp DP.b .nil pass0 (pa_cons (pv 0) pa_nil)) pe_int (nomark _))))))),?_⟩
  refine ⟨_,rfl,x,d,rfl,rd,td,hd,fun H1 s1=>⟨_,rfl,?_⟩⟩
  unfold testB at k
  cases sh:shapeB d with
  |false=>rw [sh] at k;exact ifF rfl (k _ s1)
  | true=>
    rw [sh,Bool.true_and] at k
    have dd:deepF d≤8:=Nat.le_trans (deep_dep td sh) hd
    refine ifT rfl ⟨_,rfl,x,d,rfl,rd.same s1,td,sh,dd,by decide,fun H2 s2=>⟨_,_,rfl,rfl,_,rfl,?_⟩⟩
    by_cases h5:deepF d≤5
    ·rw [decide_eq_true h5,Bool.true_and] at k
     refine ifT (by simp;omega) ⟨_,rfl,x,d,rfl,rd.same (s1.trans s2),td,sh,dd,by decide,fun H3 s3=>⟨_,_,rfl,rfl,?_⟩⟩
     have:=k _ ((s1.trans s2).trans s3)
     rw [show decide (partsF d≤15)=decide (((partsF d:Nat):Int)≤15) by rw [Bool.eq_iff_iff];simp;omega] at this
     exact this
    ·rw [decide_eq_false h5,Bool.false_and] at k
     exact ifF (by simp;omega) (k _ (s1.trans s2))
end
def cutD (xs:List PyData) (lo hi:Option Int):List PyData:=(xs.drop (HT.sIx xs.length 0 lo)).take (HT.sIx xs.length xs.length hi-HT.sIx xs.length 0 lo)
theorem reps_drop {K:Frag} {H:Hp}:∀ (n:Nat) {vs:List V} {ds:List PyData},Reps K H vs ds->Reps K H (vs.drop n) (ds.drop n)
 |0,_,_,h=>h
 |_+1,_,_,.nil=>.nil
 |n+1,_,_,.cons _ h=>reps_drop n h
theorem reps_take {K:Frag} {H:Hp}:∀ (n:Nat) {vs:List V} {ds:List PyData},Reps K H vs ds->Reps K H (vs.take n) (ds.take n)
 |0,_,_,_=>.nil
 |_+1,_,_,.nil=>.nil
 |n+1,_,_,.cons a h=>.cons a (reps_take n h)
theorem cut_rep {K:Frag} {H:Hp} {a:Addr} {ds:List PyData} {lo hi:Option Int} {Q:VK} (ra:Rep K H (.ref a) (.tuple ds)) (k:∀ v H',Same H H'->Rep K H' (.ref v) (.tuple (cutD ds lo hi))->Q (.ref v) H'):rSlW K (.ref a) lo hi H Q:=by
 cases ra with
 |@tup _ xs _ sq rs=>
 have hl:=rs.length
 have rc:Reps K H (cutV xs lo hi) (cutD ds lo hi):=by
  unfold cutV cutD
  rw [hl]
  exact reps_take _ (reps_drop _ rs)
 refine ⟨a,xs,rfl,sq,fun e=>k a H (Same.refl _) ?_,fun p hp=>k p _ (Same.new hp) (.tup (SqT.of upd_same) (rc.same (Same.new hp)))⟩
 rw [e] at rc
 exact .tup sq rc
theorem cat_rep {K:Frag} {H:Hp} {a b:Addr} {ds es:List PyData} {Q:VK} (ra:Rep K H (.ref a) (.tuple ds)) (rb:Rep K H (.ref b) (.tuple es)) (l:ds.length+es.length≤1000) (k:∀ v H',Same H H'->Rep K H' (.ref v) (.tuple (ds++es))->Q (.ref v) H'):rCatA K (.ref a) (.ref b) H Q:=by
 cases ra with
 |@tup _ xs _ sq rs=>
 cases rb with
 |@tup _ ys _ sq' rs'=>
 have hl:=rs.length
 have hl':=rs'.length
 have big:1000≤sizeLine:=by decide
 refine ⟨a,b,xs,ys,rfl,rfl,sq,sq',by omega,fun e=>k b H (Same.refl _) ?_,fun e=>k a H (Same.refl _) ?_,fun p hp=>k p _ (Same.new hp) (.tup (SqT.of upd_same) ((reps_app rs rs').same (Same.new hp)))⟩
 ·subst e
  cases rs
  exact .tup sq' rs'
 ·subst e
  cases rs'
  rw [List.append_nil]
  exact .tup sq rs
theorem cutD_tail (x:PyData) (r:List PyData):cutD (x::r) (some 1) none=r:=by
 simp [cutD,HT.sIx]
theorem cutD_take {ds:List PyData} {v:Int} {k:Nat} (h:v=(k:Nat)) (hk:k≤ds.length):cutD ds none (some v)=ds.take k:=by
 subst h
 unfold cutD
 rw [HT.sIx_nat,HT.sIx_none,List.drop_zero,Nat.sub_zero,Nat.min_eq_left hk]
theorem cutD_drop {ds:List PyData} {v:Int} {k:Nat} (h:v=(k:Nat)) (hk:k≤ds.length):cutD ds (some v) none=ds.drop k:=by
 subst h
 unfold cutD
 rw [HT.sIx_nat,HT.sIx_none,Nat.min_eq_left hk]
 exact List.take_of_length_le (by rw [List.length_drop];omega)
theorem cutD_last (x:PyData) (r:List PyData):cutD (x::r) none (some (-1))=(x::r).take r.length:=by
 unfold cutD
 have e:HT.sIx (x::r).length (x::r).length (some (-1))=r.length:=by
  unfold HT.sIx
  simp only [List.length_cons]
  rw [if_pos (by decide)]
  omega
 rw [e,HT.sIx_none,List.drop_zero,Nat.sub_zero]
structure Bd (n:Nat) (e:PyData):Prop where
 td:TD e
 dp:pdDep e≤n
theorem deps_le {n:Nat}:∀ {l:List PyData},(∀ d∈l,pdDep d≤n)->pdDeps l≤n
 |[],_=>Nat.zero_le _
 | d::l,h=>by
   have h1:=h d (List.mem_cons_self ..)
   have h2:=deps_le fun d m=>h d (List.mem_cons_of_mem _ m)
   show max (pdDep d) (pdDeps l)≤n
   omega
theorem bd_node {n:Nat} {f:Str} {r:List PyData} (a:Asc f) (l:f.length≤40) (lr:r.length≤20) (h:∀ d∈r,Bd n d):Bd (n+1) (.tuple (.str f::r)):=by
 refine ⟨.node a l lr fun d m=>(h d m).td,?_⟩
 have:=deps_le fun d m=>(h d m).dp
 show max 0 (pdDeps r)+1≤n+1
 omega
theorem Bd.mono {n m:Nat} {e:PyData} (h:Bd n e) (l:n≤m):Bd m e:=⟨h.td,Nat.le_trans h.dp l⟩
theorem bd_str {n:Nat} {x:Str} (a:Asc x) (l:x.length≤40):Bd n (.str x):=⟨.str a l,Nat.zero_le _⟩
theorem bd_int {n:Nat} {i:Int} (a:-Huge≤i) (b:i≤Huge):Bd n (.int i):=⟨.int a b,Nat.zero_le _⟩
theorem bd_all {n:Nat}:Bd (n+1) (.tuple [.str "all"]):=bd_node (by unfold Asc;decide +kernel) (by decide +kernel) (by simp) (by simp)
theorem Tr.node {n:Nat} {d:PyData} (h:Tr n d):∃ f r k,n=k+1/\d=.tuple (.str f::r)/\Asc f/\f.length≤40/\r.length≤2/\(∀ e∈r,Bd k e)/\((arity f).isSome=true->1≤r.length/\∀ e∈r,Tr k e):=by
 obtain ⟨f,r,rfl⟩:=shape_tuple h.td h.sh
 have hd:=h.dp
 have hd':max 0 (pdDeps r)+1≤n:=hd
 obtain ⟨k,rfl⟩:∃ k,n=k+1:=⟨n-1,by omega⟩
 have td:=h.td
 cases td with
 |node a l lr tr=>
 have bds:∀ e∈r,Bd k e:=fun e m=>⟨tr e m,dep_mem hd m⟩
 rcases node_of (n:=deepF (.tuple (.str f::r))) h.sh (by omega) with ⟨ha,hl⟩|N
 ·have lf:=leaf_of hl
  refine ⟨f,r,k,rfl,rfl,a,l,?_,bds,fun z=>by rw [ha] at z;cases z⟩
  cases lf <;> simp
 ·have a2:=arity_le N.ar
  exact ⟨f,r,k,rfl,rfl,a,l,a2.2,bds,fun _=>⟨a2.1,fun e m=>⟨tr e m,N.sh e m,dep_mem hd m⟩⟩⟩
section
variable {P:Program} {w:World} {K:PySem.W.Frag} {mg:Str->Option Value} {base:Heap}
def spBt (K:Frag) (n:Nat):Sp:=fun vs H Q _=>∃ (p dc:Addr) (x:V) (d:PyData),vs=[.ref p,x]/\Dr H p dc/\Rep K H x d/\Tr n d/\n≤10/\∀ (y:V) (e:PyData) (H':Hp),Rep K H' y e->Bd (n+1) e->Dr H' p dc->But p H H'->Q y H'
abbrev NBt:List Str:=["_law_d","_law_test_here","_law_way","_law_at"]
theorem scBt:FnScope NBt ["_law_d","_law_test_here"] (defScope (top 49)):=⟨rfl,rfl,rfl,by decide +kernel,rfl,by decide +kernel,by decide +kernel⟩
theorem ok_bt {f fP fO fW fFr fOd:Addr} {fd fdP fdO fdW fdFr fdOd:FuncData} (DB:Def K mg "_law_bent_test" (top 49) ["_law_d","_law_test_here"] f fd) (T:Txt K mg) (DP:Def K mg "_law_pick" (top 31) ["_law_d","_law_many"] fP fdP) (DO:Def K mg "_law_of" (top 32) ["_law_d","_law_things"] fO fdO)
 (DW:Def K mg "_law_word" (top 35) ["_law_d"] fW fdW) (DFr:Def K mg "_law_far" (top 33) ["_law_d"] fFr fdFr) (DOd:Def K mg "_law_odd_name" (top 39) ["_law_d","_law_text"] fOd fdOd) (n:Nat):FnOk P w K mg base CX0 (n+4) f fd ["_law_d","_law_test_here"] (spBt K n):=by
 have GP:FnOk P w K mg base CX0 1 fP fdP ["_law_d","_law_many"] spPick:=ok_pick DP.F T
 have GO:FnOk P w K mg base CX0 2 fO fdO ["_law_d","_law_things"] (spOf K):=ok_of DO.F T DP
 have GW:FnOk P w K mg base CX0 3 fW fdW ["_law_d"] spWord:=ok_word DW.F T DP DO
 have GF:FnOk P w K mg base CX0 2 fFr fdFr ["_law_d"] spFar:=ok_far DFr.F T DP
 have GOd:FnOk P w K mg base CX0 3 fOd fdOd ["_law_d","_law_text"] spOdd:=ok_odd DOd.F T DP DO
 have main:∀ m:Nat,(∀ j,j+1=m->FnOk P w K mg base CX0 (j+4) f fd ["_law_d","_law_test_here"] (spBt K j))->FnOk P w K mg base CX0 (m+4) f fd ["_law_d","_law_test_here"] (spBt K m):=by
  intro m GC
  have GB:FnOk P w K mg base CX0 (m+3) f fd ["_law_d","_law_test_here"] (fun vs H Q E=>∃ j,j+1=m/\spBt K j vs H Q E):=by
   match m,GC with
   |0,_=>exact ⟨fun _ _ _ _ ⟨n,e,_⟩=>by omega,fun _ _ _ _ _ _ _ _ _ _ _ _ _ ⟨n,e,_⟩=>by omega⟩
   | m+1,GC=>
     have G:=GC m rfl
     exact ⟨fun vs H Q E ⟨n,e,h⟩=>by cases e;exact G.1 vs H Q E h,fun a1 a2 a3 a4 a5 a6 a7 a8 a9 a10 a11 a12 a13 ⟨n,e,h⟩=>by cases e;exact G.2 a1 a2 a3 a4 a5 a6 a7 a8 a9 a10 a11 a12 a13 h⟩
  refine DB.F.ok scBt (fun vs H Q E h=>?_) (fun cdv A outer s H vs Q E hr h=>?_)
  ·obtain ⟨p,dc,x,d,rfl,_⟩:=h
   rfl
  ·obtain ⟨p,dc,x,d,rfl,D,rd,tr,hm,k⟩:=h
   have hr1:Room 1 _:=hr.mono (by omega)
   have hr2:Room 2 _:=hr.mono (by omega)
   have hr3:Room 3 _:=hr.mono (by omega)
   refine ⟨_,(pss_cons (ps_if (PW.pt (pw_or (pt_not (pt_val (pe_callB call_isT (by rfl) T.isinstance bt_isinstance (pa_cons (pv 1) (pa_cons (pe_ty rfl T.tuple bt_tuple) pa_nil))))) (pw_or1 (pt_cmpR (op_eqD hr.units) (pv 1) (pe_tup pa_nil) (nomark _))))) (pss_one (ps_ret (pv 1))) pss_nil)
    (pss_cons (ps_set (i:=2) scBt.nd rfl (Or.inl rfl) (pe_call GP hr1 rfl DP.mg DP.F.kp DP.b .nil pass0 (pa_cons (pv 0) (pa_cons pe_int pa_nil))))
    (pss_cons (ps_if (PW.pt (pw_and (pt_cmpR op_gt (pe_callB call_len_seq (by rfl) T.len bt_len (pa_cons (pv 1) pa_nil)) pe_int (nomark _)) (pw_and (pt_cmpR op_in_seq (pe_ix ix_tup (pv 1) pe_int (fun _ _=>rfl)) (pe_tup (pa_cons pe_str (pa_cons pe_str (pa_cons pe_str pa_nil)))) rfl) (pw_and1 (pt_cmpR op_eq (pe_call GP hr1 rfl DP.mg DP.F.kp DP.b .nil pass0 (pa_cons (pv 0) (pa_cons pe_int pa_nil))) pe_int (nomark _)))))) (pss_cons (ps_set (i:=3) scBt.nd rfl (Or.inl rfl) (pe_op op_add pe_int (pe_call GP hr1 rfl DP.mg DP.F.kp DP.b .nil pass0 (pa_cons (pv 0) (pa_cons (pe_op op_sub (pe_callB call_len_seq (by rfl) T.len bt_len (pa_cons (pv 1) pa_nil)) pe_int) pa_nil))))) (pss_one (ps_ret (pe_op op_catA (pe_op op_catA (pe_slice sl_tupW (pv 1) po_none (po_some (pv 3))) (pe_tup (pa_cons (pe_call GB hr rfl DB.mg DB.F.kp DB.b .nil pass0 (pa_cons (pv 0) (pa_cons (pe_ix ix_tup (pv 1) (pv 3) (fun _ _=>rfl)) pa_nil))) pa_nil))) (pe_slice sl_tupW (pv 1) (po_some (pe_op op_add (pv 3) pe_int)) po_none))))) pss_nil)
    (pss_cons (ps_if (pt_cmpR op_eq (pv 2) pe_int (nomark _)) (pss_one (ps_ret (pe_slice sl_tupW (pv 1) po_none (po_some (pe_un un_neg pe_int))))) pss_nil)
    (pss_cons (ps_if (pt_cmpR op_eq (pv 2) pe_int (nomark _)) (pss_one (ps_ret (pe_op op_catA (pv 1) (pe_tup (pa_cons (pe_call GO hr2 rfl DO.mg DO.F.kp DO.b .nil pass0 (pa_cons (pv 0) (pa_cons (pe_lst (pa_cons (pe_tup (pa_cons pe_str pa_nil)) (pa_cons pe_int (pa_cons pe_str pa_nil)))) pa_nil))) pa_nil))))) pss_nil)
    (pss_cons (ps_if (pt_cmpR op_eq (pv 2) pe_int (nomark _)) (pss_one (ps_ret (pe_op op_catA (pe_tup (pa_cons (pe_call GO hr2 rfl DO.mg DO.F.kp DO.b .nil pass0 (pa_cons (pv 0) (pa_cons (pe_lst (pa_cons pe_str (pa_cons pe_str (pa_cons pe_str (pa_cons pe_str (pa_cons pe_str pa_nil)))))) pa_nil))) pa_nil)) (pe_slice sl_tupW (pv 1) (po_some pe_int) po_none)))) pss_nil)
    (pss_cons (ps_if (pt_cmpR op_eq (pv 2) pe_int (nomark _)) (pss_one (ps_ret (pe_tup (pa_cons pe_str (pa_cons (pe_call GOd hr3 rfl DOd.mg DOd.F.kp DOd.b .nil pass0 (pa_cons (pv 0) (pa_cons (pe_call GW hr3 rfl DW.mg DW.F.kp DW.b .nil pass0 (pa_cons (pv 0) pa_nil)) pa_nil))) (pa_cons pe_int pa_nil)))))) pss_nil)
    (pss_cons (ps_if (pt_cmpR op_eq (pv 2) pe_int (nomark _)) (pss_one (ps_ret (pe_tup (pa_cons pe_str (pa_cons (pe_call GW hr3 rfl DW.mg DW.F.kp DW.b .nil pass0 (pa_cons (pv 0) pa_nil)) (pa_cons (pe_call GO hr2 rfl DO.mg DO.F.kp DO.b .nil pass0 (pa_cons (pv 0) (pa_cons (pe_lst (pa_cons pe_int (pa_cons (pe_un un_neg pe_int) (pa_cons (pe_call GF hr2 rfl DFr.mg DFr.F.kp DFr.b .nil pass0 (pa_cons (pv 0) pa_nil)) (pa_cons (pe_tup (pa_cons pe_str pa_nil)) pa_nil))))) pa_nil))) pa_nil)))))) pss_nil)
    (pss_cons (ps_if (pt_cmpR op_eq (pv 2) pe_int (nomark _)) (pss_one (ps_ret (pe_tup (pa_cons pe_str (pa_cons (pe_call GOd hr3 rfl DOd.mg DOd.F.kp DOd.b .nil pass0 (pa_cons (pv 0) (pa_cons (pe_call GW hr3 rfl DW.mg DW.F.kp DW.b .nil pass0 (pa_cons (pv 0) pa_nil)) pa_nil))) pa_nil))))) pss_nil)
    (pss_cons (ps_if (pt_cmpR op_eq (pv 2) pe_int (nomark _)) (pss_one (ps_ret (pe_tup (pa_cons pe_str (pa_cons (pv 1) (pa_cons (pv 1) pa_nil)))))) pss_nil)
    (pss_cons (ps_if (pt_cmpR op_eq (pv 2) pe_int (nomark _)) (pss_one (ps_ret (pe_tup (pa_cons pe_str (pa_cons (pv 1) pa_nil))))) pss_nil)
    (pss_cons (ps_if (pt_cmpR op_eq (pv 2) pe_int (nomark _)) (pss_one (ps_ret (pe_tup (pa_cons pe_str (pa_cons (pv 1) (pa_cons (pe_call GO hr2 rfl DO.mg DO.F.kp DO.b .nil pass0 (pa_cons (pv 0) (pa_cons (pe_lst (pa_cons pe_str (pa_cons pe_int (pa_cons (pe_tup (pa_cons pe_str pa_nil)) pa_nil)))) pa_nil))) pa_nil)))))) pss_nil)
    (pss_one (ps_ret (pv 1))))))))))))))),?_⟩
   obtain ⟨f,r,n,rfl,rfl,af,lf,lr,bds,hop⟩:=tr.node
   have rd0:=rd
   cases rd with
   |@tup a xs _ sq rs=>
   obtain ⟨x0,ys,rfl⟩:∃ x0 ys,xs=x0::ys:=by cases rs;exact ⟨_,_,rfl⟩
   obtain ⟨r0,rt⟩:Rep K H x0 (.str f)/\Reps K H ys r:=by cases rs with|cons a b=>exact ⟨a,b⟩
   cases r0
   have hl:=rt.length
   have bd0:Bd (n+1) (.tuple (.str f::r)):=⟨tr.td,tr.dp⟩
   have h1000:1000≤sizeLine:=by decide
   have hu:(1000000:Int)≤Huge:=by decide
   refine ⟨_,rfl,_,_,_,_,rfl,rd0,rfl,_,rfl,ifF rfl ?_⟩
   refine ⟨_,rfl,(show 0≤sizeLine by decide),fun t0 ht0=>?_⟩
   have s0:Same H (upd H t0 (.tup [])):=Same.new ht0
   refine ⟨_,_,rd0.same s0,.tup (SqT.of upd_same) .nil,?_,_,rfl,ifF rfl ?_⟩
   ·have:=tr.dp;omega
   have D0:Dr (upd H t0 (.tup [])) p dc:=D.mono s0
   have rd1:=rd0.same s0
   have b0:But p H (upd H t0 (.tup [])):=s0.but
   generalize upd H t0 (.tup [])=H0 at s0 D0 rd1 b0 ⊢
   refine ⟨_,rfl,p,dc,_,rfl,D0,by decide,by decide,fun w1 H1 w0 w10 D1 b1=>?_⟩
   have rd2:=D0.rep b1 rd1
   have b01:=b0.trans b1
   clear rd1 b1 D0 s0
   try dsimp only [gName]
   refine seq_by (fun σ' H'=>(∃ u,σ'=[some (.ref p),some (.ref a),some (.int w1),u])/\Dr H' p dc/\But p H H'/\Rep K H' (.ref a) (.tuple (.str f::r))) ?nx fun N hN=>?st
   case st=>
    have sqOf:∀ {H':Hp},Rep K H' (.ref a) (.tuple (.str f::r))->∃ zs,SqT K H' a (.str f::zs)/\Reps K H' zs r:=by
     intro H' h
     cases h with
     |@tup _ zs _ q1 q2=>
     cases q2 with
     |@cons z0 _ zs _ q3 q4=>
     cases q3
     exact ⟨zs,q1,q4⟩
    obtain ⟨zs,sq2,rz2⟩:=sqOf rd2
    have hz:=rz2.length
    refine ⟨_,rfl,a,_,rfl,.inr sq2,_,_,rfl,rfl,_,rfl,ite2 (fun hlen=>?_) (fun _=>hN _ _ ⟨⟨_,rfl⟩,D1,b01,rd2⟩)⟩
    refine ⟨_,rfl,a,_,_,_,rfl,rfl,sq2,atI_nat (j:=0) rfl,(show 3≤sizeLine by decide),fun t ht=>?_⟩
    have s2:Same H1 (upd H1 t (.tup [.str "not",.str "and",.str "or"])):=Same.new ht
    refine ⟨t,_,rfl,.inr (SqT.of upd_same),rfl,rfl,_,rfl,?_⟩
    rw [inS3,ar_op]
    have rd3:=rd2.same s2
    have D2:=D1.mono s2
    have b2:But p H (upd H1 t (.tup [.str "not",.str "and",.str "or"])):=b01.trans s2.but
    generalize upd H1 t (.tup [.str "not",.str "and",.str "or"])=H2 at s2 rd3 D2 b2 ⊢
    refine ite2 (fun ho=>?_) (fun _=>hN _ _ ⟨⟨_,rfl⟩,D2,b2,rd3⟩)
    obtain ⟨r1,trs⟩:=hop ho
    refine ⟨_,rfl,p,dc,_,rfl,D2,by decide,by decide,fun q H3 q0 q1 D3 b3=>⟨rfl,_,rfl,ite2 (fun _=>?_) (fun _=>hN _ _ ⟨⟨_,rfl⟩,D3,b2.trans b3,D2.rep b3 rd3⟩)⟩⟩
    have rd4:=D2.rep b3 rd3
    have b4:=b2.trans b3
    obtain ⟨zs4,sq4,rz4⟩:=sqOf rd4
    have hz4:=rz4.length
    refine ⟨_,rfl,_,rfl,a,_,rfl,.inr sq4,_,_,rfl,rfl,p,dc,_,rfl,D3,?_,?_,fun j H5 j0 j1 D5 b5=>⟨_,_,rfl,rfl,?_⟩⟩
    ·simp only [List.length_cons];omega
    ·simp only [List.length_cons];omega
    obtain ⟨i,rfl⟩:=Int.eq_ofNat_of_zero_le j0
    have hi:i<r.length:=by simp only [List.length_cons] at j1;omega
    have rd5:=D3.rep b5 rd4
    have b5':=b4.trans b5
    have ai:(1+(i:Int))=((i+1:Nat):Int):=by omega
    have ai2:(1+(i:Int)+1)=((i+2:Nat):Int):=by omega
    refine ⟨_,rfl,_,rfl,_,rfl,cut_rep rd5 fun v1 H6 s6 rv1=>?_⟩
    rw [cutD_take ai (by simp;omega)] at rv1
    have rd6:=rd5.same s6
    have D6:=D5.mono s6
    obtain ⟨zs6,sq6,rz6⟩:=sqOf rd6
    have hz6:=rz6.length
    have hi6:i<zs6.length:=by omega
    obtain ⟨e,he,ry⟩:=rz6.get' (List.getElem?_eq_getElem hi6)
    have me:=List.mem_of_getElem? he
    refine ⟨_,rfl,_,rfl,_,rfl,a,_,_,zs6[i],rfl,rfl,sq6,(by rw [ai];exact atI_nat (by rw [List.getElem?_cons_succ];exact List.getElem?_eq_getElem hi6)),n,rfl,p,dc,_,e,rfl,D6,ry,trs e me,by omega,fun y2 e2 H7 ry2 bd2 D7 b7=>⟨(show 1≤sizeLine by decide),fun t7 ht7=>?_⟩⟩
    have s8:Same H7 (upd H7 t7 (.tup [y2])):=Same.new ht7
    have b8:But p H (upd H7 t7 (.tup [y2])):=((b5'.trans s6.but).trans b7).trans s8.but
    refine cat_rep ((D6.rep b7 rv1).same s8) (.tup (SqT.of upd_same) (.cons (ry2.same s8) .nil)) (by simp;omega) fun v9 H9 s9 rv9=>?_
    have rd9:=((D6.rep b7 rd6).same s8).same s9
    refine ⟨_,rfl,_,rfl,_,_,rfl,rfl,_,rfl,?_⟩
    dsimp only [tNoPart]
    refine cut_rep rd9 fun v10 H10 s10 rv10=>?_
    rw [cutD_drop ai2 (by simp;omega)] at rv10
    refine cat_rep (rv9.same s10) rv10 (by simp;omega) fun v11 H11 s11 rv11=>?_
    have ee:((PyData.str f::r).take (i+1)++[e2]++(PyData.str f::r).drop (i+2))=.str f::(r.take i++[e2]++r.drop (i+1)):=by
     rw [List.take_succ_cons,List.drop_succ_cons];rfl
    rw [ee] at rv11
    refine k _ _ H11 rv11 (bd_node af lf (by simp;omega) fun d m=>?_) (((D7.mono s8).mono s9).mono (s10.trans s11)) (((b8.trans s9.but).trans s10.but).trans s11.but)
    simp only [List.mem_append,List.mem_singleton] at m
    rcases m with (m|m)|m
    ·exact (bds d (List.mem_of_mem_take m)).mono (by omega)
    ·subst m;exact bd2
    ·exact (bds d (List.mem_of_mem_drop m)).mono (by omega)
   rintro σ' H2 ⟨⟨u,rfl⟩,D2,b2,rd3⟩
   refine ⟨_,rfl,rfl,_,rfl,ite2 (fun _=>?_) (fun _=>?_)⟩
   ·refine ⟨_,rfl,1,rfl,_,rfl,cut_rep rd3 fun v1 H3 s3 rv=>?_⟩
    have rv:Rep K H3 (.ref v1) (.tuple (cutD (.str f::r) none (some (-1)))):=rv
    rw [cutD_last] at rv
    cases r with
    |nil=>exact k _ _ H3 rv ⟨.nil,by simp [pdDep,pdDeps]⟩ (D2.mono s3) (b2.trans s3.but)
    | cons d r=>
      rw [List.length_cons,List.take_succ_cons] at rv
      exact k _ _ H3 rv (bd_node af lf (by simp at lr ⊢;omega) fun e m=>(bds e (List.mem_of_mem_take m)).mono (by omega)) (D2.mono s3) (b2.trans s3.but)
   refine ⟨_,rfl,rfl,_,rfl,ite2 (fun _=>?_) (fun _=>?_)⟩
   ·refine ⟨_,rfl,_,rfl,(show 1≤sizeLine by decide),fun t ht=>⟨(show 3≤sizeLine by decide),fun q hq=>?_⟩⟩
    have s4:Same H2 (upd (upd H2 t (.tup [.str "all"])) q (.lst [.ref t,.int 3,.str "ab"])):=(Same.new ht).trans (Same.new hq)
    have rt4:Rep K (upd (upd H2 t (.tup [.str "all"])) q (.lst [.ref t,.int 3,.str "ab"])) (.ref t) (.tuple [.str "all"]):=.tup (SqT.of (Same.new hq _ _ upd_same)) (.cons (.str _) .nil)
    refine ⟨p,dc,q,_,rfl,D2.mono s4,SqL.of upd_same,by simp,by simp,fun y H5 hy D5 b5=>⟨(show 1≤sizeLine by decide),fun t6 ht6=>?_⟩⟩
    obtain ⟨e,re,be⟩:∃ e,Rep K H5 y e/\Bd (n+1) e:=by
     simp only [List.mem_cons,List.not_mem_nil,or_false] at hy
     rcases hy with rfl|rfl|rfl
     ·exact ⟨_,(D2.mono s4).rep b5 rt4,bd_all⟩
     ·exact ⟨_,.int _,bd_int (by omega) (by omega)⟩
     ·exact ⟨_,.str _,bd_str (by unfold Asc;decide +kernel) (by decide +kernel)⟩
    have s6:Same H5 (upd H5 t6 (.tup [y])):=Same.new ht6
    refine cat_rep (((D2.mono s4).rep b5 (rd3.same s4)).same s6) (.tup (SqT.of upd_same) (.cons (re.same s6) .nil)) (by simp;omega) fun v H7 s7 rv=>?_
    refine k _ _ H7 rv (bd_node (r:=r++[e]) af lf (by simp;omega) fun d m=>?_) ((D5.mono s6).mono s7) ((((b2.trans s4.but).trans b5).trans s6.but).trans s7.but)
    rcases List.mem_append.mp m with m|m
    ·exact (bds d m).mono (by omega)
    ·simp at m;subst m;exact be
   refine ⟨_,rfl,rfl,_,rfl,ite2 (fun _=>?_) (fun _=>?_)⟩
   ·refine ⟨_,rfl,(show 5≤sizeLine by decide),fun q hq=>?_⟩
    have s4:Same H2 (upd H2 q (.lst [.str "",.str "All",.str "more",.str "xor",.str "less"])):=Same.new hq
    refine ⟨p,dc,q,_,rfl,D2.mono s4,SqL.of upd_same,by simp,by simp,fun y H5 hy D5 b5=>⟨(show 1≤sizeLine by decide),fun t6 ht6=>?_⟩⟩
    obtain ⟨z,rfl,az,lz⟩:∃ z:Str,y=.str z/\Asc z/\z.length≤40:=by
     simp only [List.mem_cons,List.not_mem_nil,or_false] at hy
     rcases hy with rfl|rfl|rfl|rfl|rfl
     all_goals exact ⟨_,rfl,by unfold Asc;decide +kernel,by decide +kernel⟩
    have s6:Same H5 (upd H5 t6 (.tup [.str z])):=Same.new ht6
    have rd6:=((D2.mono s4).rep b5 (rd3.same s4)).same s6
    have rt6:Rep K (upd H5 t6 (.tup [.str z])) (.ref t6) (.tuple [.str z]):=.tup (SqT.of upd_same) (.cons (.str _) .nil)
    refine ⟨_,rfl,1,rfl,?_⟩
    dsimp only [tNoPart]
    refine cut_rep rd6 fun v7 H7 s7 rv7=>?_
    rw [cutD_tail] at rv7
    refine cat_rep (rt6.same s7) rv7 (by simp;omega) fun v H8 s8 rv=>?_
    exact k _ _ H8 rv (bd_node (r:=r) az lz (by omega) fun d m=>(bds d m).mono (by omega)) (((D5.mono s6).mono s7).mono s8) (((((b2.trans s4.but).trans b5).trans s6.but).trans s7.but).trans s8.but)
   refine ⟨_,rfl,rfl,_,rfl,ite2 (fun _=>?_) (fun _=>?_)⟩
   ·refine ⟨_,rfl,_,rfl,p,dc,rfl,D2,fun z H3 nz D3 b3=>⟨p,dc,z,rfl,D3,by have:=nz.hi;omega,asc_nm nz,fun o H4 ao lo D4 b4=>⟨(show 3≤sizeLine by decide),fun t ht=>?_⟩⟩⟩
    have:=nz.hi
    refine k _ (.tuple [.str "less",.str o,.int 4]) _ (.tup (SqT.of upd_same) (.cons (.str _) (.cons (.str _) (.cons (.int _) .nil)))) (bd_node (by unfold Asc;decide +kernel) (by decide +kernel) (by simp) fun d m=>?_) (D4.new ht) (((b2.trans b3).trans b4).trans (But.new ht))
    simp at m
    rcases m with rfl|rfl
    ·exact bd_str ao (by omega)
    ·exact bd_int (by omega) (by omega)
   refine ⟨_,rfl,rfl,_,rfl,ite2 (fun _=>?_) (fun _=>?_)⟩
   ·refine ⟨_,rfl,p,dc,rfl,D2,fun z H3 nz D3 b3=>⟨_,rfl,1000000,rfl,_,rfl,p,dc,rfl,D3,fun g H4 g1 g2 D4 b4=>⟨(show 1≤sizeLine by decide),fun t ht=>⟨(show 4≤sizeLine by decide),fun q hq=>?_⟩⟩⟩⟩
    have s5:Same H4 (upd (upd H4 t (.tup [.str "all"])) q (.lst [.int 1000000,.int (-1000000),.int g,.ref t])):=(Same.new ht).trans (Same.new hq)
    have rt5:Rep K (upd (upd H4 t (.tup [.str "all"])) q (.lst [.int 1000000,.int (-1000000),.int g,.ref t])) (.ref t) (.tuple [.str "all"]):=.tup (SqT.of (Same.new hq _ _ upd_same)) (.cons (.str _) .nil)
    refine ⟨p,dc,q,_,rfl,D4.mono s5,SqL.of upd_same,by simp,by simp,fun y H6 hy D6 b6=>⟨(show 3≤sizeLine by decide),fun t7 ht7=>?_⟩⟩
    obtain ⟨e,re,be⟩:∃ e,Rep K H6 y e/\Bd (n+1) e:=by
     simp only [List.mem_cons,List.not_mem_nil,or_false] at hy
     have:Huge=Far+2:=rfl
     rcases hy with rfl|rfl|rfl|rfl
     ·exact ⟨_,.int _,bd_int (by omega) (by omega)⟩
     ·exact ⟨_,.int _,bd_int (by omega) (by omega)⟩
     ·exact ⟨_,.int _,bd_int (by omega) (by omega)⟩
     ·exact ⟨_,(D4.mono s5).rep b6 rt5,bd_all⟩
    have s7:Same H6 (upd H6 t7 (.tup [.str "same",.str z,y])):=Same.new ht7
    refine k _ (.tuple [.str "same",.str z,e]) _ (.tup (SqT.of upd_same) (.cons (.str _) (.cons (.str _) (.cons (re.same s7) .nil)))) (bd_node (by unfold Asc;decide +kernel) (by decide +kernel) (by simp) fun d m=>?_) (D6.mono s7) (((((b2.trans b3).trans b4).trans s5.but).trans b6).trans s7.but)
    simp at m
    rcases m with rfl|rfl
    ·exact bd_str (asc_nm nz) (by have:=nz.hi;omega)
    ·exact be
   refine ⟨_,rfl,rfl,_,rfl,ite2 (fun _=>?_) (fun _=>?_)⟩
   ·refine ⟨_,rfl,_,rfl,p,dc,rfl,D2,fun z H3 nz D3 b3=>⟨p,dc,z,rfl,D3,by have:=nz.hi;omega,asc_nm nz,fun o H4 ao lo D4 b4=>⟨(show 2≤sizeLine by decide),fun t ht=>?_⟩⟩⟩
    have:=nz.hi
    refine k _ (.tuple [.str "is",.str o]) _ (.tup (SqT.of upd_same) (.cons (.str _) (.cons (.str _) .nil))) (bd_node (by unfold Asc;decide +kernel) (by decide +kernel) (by simp) fun d m=>?_) (D4.new ht) (((b2.trans b3).trans b4).trans (But.new ht))
    simp at m
    subst m
    exact bd_str ao (by omega)
   refine ⟨_,rfl,rfl,_,rfl,ite2 (fun _=>?_) (fun _=>?_)⟩
   ·refine ⟨_,rfl,_,rfl,(show 3≤sizeLine by decide),fun t ht=>?_⟩
    have s4:Same H2 (upd H2 t (.tup [.str "and",.ref a,.ref a])):=Same.new ht
    refine k _ (.tuple [.str "and",.tuple (.str f::r),.tuple (.str f::r)]) _ (.tup (SqT.of upd_same) (.cons (.str _) (.cons (rd3.same s4) (.cons (rd3.same s4) .nil)))) (bd_node (by unfold Asc;decide +kernel) (by decide +kernel) (by simp) fun d m=>?_) (D2.mono s4) (b2.trans s4.but)
    simp at m
    subst m
    exact bd0
   refine ⟨_,rfl,rfl,_,rfl,ite2 (fun _=>?_) (fun _=>?_)⟩
   ·refine ⟨_,rfl,(show 2≤sizeLine by decide),fun t ht=>?_⟩
    have s4:Same H2 (upd H2 t (.tup [.str "not",.ref a])):=Same.new ht
    refine k _ (.tuple [.str "not",.tuple (.str f::r)]) _ (.tup (SqT.of upd_same) (.cons (.str _) (.cons (rd3.same s4) .nil))) (bd_node (by unfold Asc;decide +kernel) (by decide +kernel) (by simp) fun d m=>?_) (D2.mono s4) (b2.trans s4.but)
    simp at m
    subst m
    exact bd0
   refine ⟨_,rfl,rfl,_,rfl,ite2 (fun _=>?_) (fun _=>?_)⟩
   ·refine ⟨_,rfl,_,rfl,(show 1≤sizeLine by decide),fun t ht=>⟨(show 3≤sizeLine by decide),fun q hq=>?_⟩⟩
    have s4:Same H2 (upd (upd H2 t (.tup [.str "all"])) q (.lst [.str "all",.int 1,.ref t])):=(Same.new ht).trans (Same.new hq)
    have rt4:Rep K (upd (upd H2 t (.tup [.str "all"])) q (.lst [.str "all",.int 1,.ref t])) (.ref t) (.tuple [.str "all"]):=.tup (SqT.of (Same.new hq _ _ upd_same)) (.cons (.str _) .nil)
    refine ⟨p,dc,q,_,rfl,D2.mono s4,SqL.of upd_same,by simp,by simp,fun y H5 hy D5 b5=>⟨(show 3≤sizeLine by decide),fun t6 ht6=>?_⟩⟩
    obtain ⟨e,re,be⟩:∃ e,Rep K H5 y e/\Bd (n+1) e:=by
     simp only [List.mem_cons,List.not_mem_nil,or_false] at hy
     rcases hy with rfl|rfl|rfl
     ·exact ⟨_,.str _,bd_str (by unfold Asc;decide +kernel) (by decide +kernel)⟩
     ·exact ⟨_,.int _,bd_int (by omega) (by omega)⟩
     ·exact ⟨_,(D2.mono s4).rep b5 rt4,bd_all⟩
    have s6:Same H5 (upd H5 t6 (.tup [.str "or",.ref a,y])):=Same.new ht6
    refine k _ (.tuple [.str "or",.tuple (.str f::r),e]) _ (.tup (SqT.of upd_same) (.cons (.str _) (.cons (((D2.mono s4).rep b5 (rd3.same s4)).same s6) (.cons (re.same s6) .nil)))) (bd_node (by unfold Asc;decide +kernel) (by decide +kernel) (by simp) fun d m=>?_) (D5.mono s6) (((b2.trans s4.but).trans b5).trans s6.but)
    simp at m
    rcases m with rfl|rfl
    ·exact bd0
    ·exact be
   exact ⟨_,rfl,k _ _ H2 rd3 (bd0.mono (by omega)) D2 b2⟩
 induction n with
 |zero=>exact main 0 (fun n e=>by omega)
 |succ n ih=>exact main (n+1) (fun n' e=>by cases e;exact ih)
end
section
variable {P:Program} {w:World} {K:PySem.W.Frag} {mg:Str->Option Value} {base:Heap}
def spTe (K:Frag):Sp:=fun vs H Q _=>∃ (p dc q q':Addr) (ys ys':List Str),vs=[.ref p,.ref q,.ref q']/\Dr H p dc/\SqL K H q (ys.map V.str)/\SqL K H q' (ys'.map V.str)/\ys≠[]/\ys'≠[]/\ys.length≤100/\ys'.length≤100/\(∀ y∈ys,Nm y)/\(∀ y∈ys',Nm y)/\
 ∀ (x:V) (d:PyData) (H':Hp),Rep K H' x d->Tr 5 d->testB d=true->Dr H' p dc->But p H H'->Q x H'
abbrev NTe:List Str:=["_law_d","_law_names","_law_kinds","_law_test_here"]
theorem scTe:FnScope NTe ["_law_d","_law_names","_law_kinds"] (defScope (top 45)):=⟨rfl,rfl,rfl,by decide +kernel,rfl,by decide +kernel,by decide +kernel⟩
theorem ok_te {f fP fO fN fL fT fA:Addr} {fd fdP fdO fdN fdL fdT fdA:FuncData} (F:Fun K "_law_test" "_law_test" (top 45) f fd) (T:Txt K mg) (hsum:mg "sum" = none) (DP:Def K mg "_law_pick" (top 31) ["_law_d","_law_many"] fP fdP) (DO:Def K mg "_law_of" (top 32) ["_law_d","_law_things"] fO fdO) (DN:Def K mg "_law_number" (top 40) ["_law_d"] fN fdN)
 (DL:Def K mg "_law_leaf" (top 41) ["_law_d","_law_names","_law_kinds"] fL fdL) (DT:Def K mg "_law_tree" (top 42) ["_law_d","_law_deep_here","_law_names","_law_kinds"] fT fdT) (DA:Def K mg "_law_parts" (top 43) ["_law_test_here"] fA fdA):FnOk P w K mg base CX0 10 f fd ["_law_d","_law_names","_law_kinds"] (spTe K):=by
 have GP:FnOk P w K mg base CX0 1 fP fdP ["_law_d","_law_many"] spPick:=ok_pick DP.F T
 have GL:FnOk P w K mg base CX0 4 fL fdL ["_law_d","_law_names","_law_kinds"] (spLe K):=ok_le DL.F T DP DO DN
 have GT:FnOk P w K mg base CX0 9 fT fdT ["_law_d","_law_deep_here","_law_names","_law_kinds"] (spTr K 5):=ok_tr DT T DP DO DN DL 4
 have GA:FnOk P w K mg base CX0 5 fA fdA ["_law_test_here"] (spPa K partsF 5):=ok_pa DA hsum 5
 refine F.ok scTe (fun vs H Q E h=>?_) (fun cdv A outer s H vs Q E hr h=>?_)
 ·obtain ⟨p,dc,q,q',ys,ys',rfl,_⟩:=h
  rfl
 ·obtain ⟨p,dc,q,q',ys,ys',rfl,D,hq,hq',ne,ne',l,l',nm,nm',k⟩:=h
  have hr1:Room 1 _:=hr.mono (by decide)
  have hr4:Room 4 _:=hr.mono (by decide)
  have hr5:Room 5 _:=hr.mono (by decide)
  refine ⟨_,(pss_cons (ps_set (i:=3) scTe.nd rfl (Or.inl rfl) (pe_call GT hr rfl DT.mg DT.F.kp DT.b .nil pass0 (pa_cons (pv 0) (pa_cons (pe_op op_add pe_int (pe_call GP hr1 rfl DP.mg DP.F.kp DP.b .nil pass0 (pa_cons (pv 0) (pa_cons pe_int pa_nil)))) (pa_cons (pv 1) (pa_cons (pv 2) pa_nil))))))
   (pss_one (ps_ret (pe_ifExp (pt_cmpR op_lt (pe_call GA hr5 rfl DA.mg DA.F.kp DA.b .nil pass0 (pa_cons (pv 3) pa_nil)) pe_int (nomark _)) (pv 3) (pe_tup (pa_cons pe_str (pa_cons (pe_call GL hr4 rfl DL.mg DL.F.kp DL.b .nil pass0 (pa_cons (pv 0) (pa_cons (pv 1) (pa_cons (pv 2) pa_nil)))) pa_nil))))))),?_⟩
  refine ⟨_,rfl,_,rfl,p,dc,_,rfl,D,by decide,by decide,fun r H1 r0 r1 D1 b1=>⟨_,_,rfl,rfl,_,rfl,_,rfl,?_⟩⟩
  refine ⟨p,dc,q,q',ys,ys',1+r,rfl,by omega,D1,D.seq b1 hq,D.seq b1 hq',ne,ne',l,l',nm,nm',fun x d H2 rx tx D2 b2=>?_⟩
  have de:deepF d≤5:=Nat.le_trans (deep_dep tx.td tx.sh) tx.dp
  refine ⟨_,rfl,x,d,rfl,rx,tx.td,tx.sh,de,by decide,fun H3 s3=>⟨_,_,rfl,rfl,_,rfl,ite2 (fun h=>?_) (fun h=>?_)⟩⟩
  ·have h:partsF d≤15:=by simp at h;omega
   exact ⟨_,rfl,k x d H3 (rx.same s3) tx (by unfold testB;rw [tx.sh,decide_eq_true de,decide_eq_true h];rfl) (D2.mono s3) ((b1.trans b2).trans s3.but)⟩
  ·have b3:=(b1.trans b2).trans (s3.but (p:=p))
   refine ⟨_,rfl,_,rfl,_,rfl,p,dc,q,q',ys,ys',rfl,D2.mono s3,D.seq b3 hq,D.seq b3 hq',ne,ne',l,l',nm,nm',fun y f r H4 ry lf D4 b4=>⟨(show 2≤sizeLine by decide),fun t ht=>?_⟩⟩
   have t1:Tr 2 (.tuple [.str "not",.tuple (.str f::r)]):=lf.tr.one
   refine k _ _ _ (.tup (SqT.of upd_same) (.cons (.str _) (.cons (ry.same (Same.new ht)) .nil))) (t1.mono (by decide)) ?_ (D4.new ht) ((b3.trans b4).trans (But.new ht))
   have e1:deepF (.tuple [.str "not",.tuple (.str f::r)])=2:=by
    show (if (arity "not").isSome=true then 1+max (if (arity f).isSome=true then 1+deeps r else 1) 0 else 1)=2
    rw [lf.ar,show arity "not" = some 1 from by decide +kernel];rfl
   have e2:partsF (.tuple [.str "not",.tuple (.str f::r)])=2:=by
    show (if (arity "not").isSome=true then 1+((if (arity f).isSome=true then 1+partss r else 1)+0) else 1)=2
    rw [lf.ar,show arity "not" = some 1 from by decide +kernel];rfl
   unfold testB
   rw [t1.sh,e1,e2]
   rfl
end
theorem asc_lt {x:Str} (a:Asc x):∀ c∈x.cps.toList,c<128:=by
 unfold Asc at a
 rw [← Array.all_toList,List.all_eq_true] at a
 exact fun c hc=>by simpa using a c hc
theorem shown_len {x:Str} (a:Asc x) (h:x.length≤100):(PyData.str x).shown.length≤100000:=by
 show (reprText x).length≤100000
 have h1:=StrLaws.reprText_len x (fun c hc=>Nat.lt_trans (asc_lt a c hc) (by decide))
 omega
theorem showA {x:Str} (a:Asc x) (h:x.length≤100):ShowD (.str x):=⟨rfl,rfl,by simp [PyData.depth],Nat.le_trans (shown_len a h) (by decide)⟩
theorem inV_str (x:Str):∀ ys:List Str,inV (.str x) (ys.map V.str)=decide (x∈ys)
 |[]=>rfl
 | y::r=>by
   have ih:=inV_str x r
   unfold inV at ih ⊢
   rw [List.map_cons,List.any_cons,ih]
   by_cases h:x=y
   ·subst h;simp [eqV]
   ·have:¬ y=x:=fun z=>h z.symm
    simp [eqV,h,this]
theorem flat_str:∀ ys:List Str,(ys.map V.str).all flatV=true
 |[]=>rfl
 |y::r=>by rw [List.map_cons,List.all_cons,flat_str r];rfl
theorem cut_pre {xs:List V} {a:Nat} (h:a≤xs.length):cutV xs none (some (a:Int))=xs.take a:=by
 show (xs.drop (HT.sIx _ 0 none)).take (HT.sIx _ _ (some (a:Int))-HT.sIx _ 0 none)=_
 rw [HT.sIx_none,HT.sIx_nat,List.drop_zero,Nat.sub_zero]
 congr 1
 omega
theorem slw {K:Frag} {H:Hp} {a:Addr} {xs zs:List V} {lo hi:Option Int} {Q:VK} (ha:SqT K H a xs) (e:cutV xs lo hi=zs) (k:∀ l H',Same H H'->SqT K H' l zs->Q (.ref l) H'):rSlW K (.ref a) lo hi H Q:=by
 subst e
 exact ⟨a,xs,rfl,ha,fun e=>k a H (Same.refl _) (by rw [e];exact ha),fun p hp=>k p _ (Same.new hp) (SqT.of upd_same)⟩
section
variable {P:Program} {w:World} {K:PySem.W.Frag} {mg:Str->Option Value} {base:Heap}
theorem raise_w {X:Cx} {W:XK} {C:Addr} {wd:Str} {tf:TF} {m:Nat} {σ:St} {H:Hp} {D:L2.Ends} {E':XK} (hf:EvF tf σ H m) (hm:m≤sizeLine) (EC:ECls X.K C) (sm:Same X.H₀ H)
 (kx:∀ da H',Thrown H [("word",.str wd)] da H'->W (.ref C) (some da) H'):tRaise X "ValueError" "ValueError.__new__" W (tMakeX C (spW X.K wd) [] E' (tCons (tFstr tf) tNil)) D σ H:=by
 refine hf Str.empty _ (by rw [show Str.empty.length=0 from rfl];omega) fun y=>?_
 intro e he
 refine ⟨e,C,_,rfl,EC,upd_same,fun da hda=>⟨rfl,e,C,some da,rfl,?_,none_back sm he,EC.x,kx da _ (thrown_of he hda)⟩⟩
 have ne:e≠da:=fun q=>by subst q;rw [upd_same] at hda;cases hda
 rw [upd_ne ne,upd_same]
abbrev sBadKeys:Stmt:=inClass (top 5) 0
theorem scBadKeys:FnScope ["self","words"] ["self","words"] (defScope sBadKeys):=⟨rfl,rfl,rfl,by decide +kernel,rfl,by decide +kernel,by decide +kernel⟩
theorem ok_BadKeys {CX:CXT} {f cS fS:Addr} {fd fdS:FuncData} {dV dW:Value} (F:FunD K "__init__" "BadKeys.__init__" sBadKeys dW f fd) (T:TxtE K mg) (FS:FunD K "__init__" "ScribeError.__init__" sSE dV fS fdS) (bS:Binds K fdS ["self","words","word"] []) (MS:MkOf K mg "ScribeError" cS fS):FnOk P w K mg base CX 2 f fd ["self","words"] (spW K "badkeys"):=by
 have GS:FnOk P w K mg base CX0 1 fS fdS ["self","words","word"] (spSE K):=ok_se FS T
 obtain ⟨mc,m1,m2⟩:=MS.rd
 refine F.ok1 scBadKeys (fun vs H Q E h=>?_) (fun cdv A outer s H vs Q E hr h=>?_)
 ·obtain ⟨e,C,a,rfl,_⟩:=h
  rfl
 ·obtain ⟨e,C,a,rfl,EC,he,k⟩:=h
  refine ⟨_,(pss_one (ps_expr (pe_clsMeth (E:=E0) (by rfl) MS.mg MS.sg m1 m2 MS.kp GS hr bS .nil pass0 (pa_cons (pv 0) (pa_cons (pv 1) (pa_cons pe_str pa_nil)))))),?_⟩
  exact ⟨_,rfl,_,rfl,e,C,_,_,rfl,EC,he,k⟩
abbrev sBadSize:Stmt:=inClass (top 4) 0
theorem scBadSize:FnScope ["self","words"] ["self","words"] (defScope sBadSize):=⟨rfl,rfl,rfl,by decide +kernel,rfl,by decide +kernel,by decide +kernel⟩
theorem ok_BadSize {CX:CXT} {f cS fS:Addr} {fd fdS:FuncData} {dV dW:Value} (F:FunD K "__init__" "BadSize.__init__" sBadSize dW f fd) (T:TxtE K mg) (FS:FunD K "__init__" "ScribeError.__init__" sSE dV fS fdS) (bS:Binds K fdS ["self","words","word"] []) (MS:MkOf K mg "ScribeError" cS fS):FnOk P w K mg base CX 2 f fd ["self","words"] (spW K "badsize"):=by
 have GS:FnOk P w K mg base CX0 1 fS fdS ["self","words","word"] (spSE K):=ok_se FS T
 obtain ⟨mc,m1,m2⟩:=MS.rd
 refine F.ok1 scBadSize (fun vs H Q E h=>?_) (fun cdv A outer s H vs Q E hr h=>?_)
 ·obtain ⟨e,C,a,rfl,_⟩:=h
  rfl
 ·obtain ⟨e,C,a,rfl,EC,he,k⟩:=h
  refine ⟨_,(pss_one (ps_expr (pe_clsMeth (E:=E0) (by rfl) MS.mg MS.sg m1 m2 MS.kp GS hr bS .nil pass0 (pa_cons (pv 0) (pa_cons (pv 1) (pa_cons pe_str pa_nil)))))),?_⟩
  exact ⟨_,rfl,_,rfl,e,C,_,_,rfl,EC,he,k⟩
structure TxtY (mg:Str->Option Value):Prop where
 mn:∃ t,mg "MOST_NAMED" = some (.int 4 t)
 kl:∃ t,mg "KEYS_LIMIT" = some (.int 64 t)
 en:mg "enumerate" = none
def keysB (ys:List Str):Bool:=decide (ys.length≤4) && (ys.all nameB && decide ys.Nodup)
abbrev bkF:List (Str×V):=[("word",.str "badkeys")]
def spNk (K:Frag) (cK:Addr):Sp:=fun vs H Q E=>∃ (a:Addr) (ys:List Str),vs=[.ref a]/\SqT K H a (ys.map V.str)/\ys.length≤20/\(∀ y∈ys,Asc y/\y.length≤40)/\
 (keysB ys=true->∀ H',Same H H'->Q .non H')/\(keysB ys=false->∀ H1 da H',Same H H1->Thrown H1 bkF da H'->E (.ref cK) (some da) H')
abbrev NNk:List Str:=["keys","at","name"]
theorem scNk:FnScope NNk ["keys"] (defScope (top 27)):=⟨rfl,rfl,rfl,by decide +kernel,rfl,by decide +kernel,by decide +kernel⟩
theorem ok_nk {f fI cK fK:Addr} {fd fdI fdK:FuncData} (F:Fun K "need_keys" "need_keys" (top 27) f fd) (T:Txt K mg) (TK':TxtK mg) (TY:TxtY mg) (DI:Def K mg "is_name" (top 11) ["text"] fI fdI) (WP:WCls K mg "BadKeys" cK fK fdK) (GB:FnOk P w K mg base CX0 2 fK fdK ["self","words"] (spW K "badkeys")):FnOk P w K mg base (CX1 P w) 5 f fd ["keys"] (spNk K cK):=by
 have GI:FnOk P w K mg base CX0 1 fI fdI ["text"] spIsName:=ok_isname DI.F T TK'
 refine F.ok1 scNk (fun vs H Q E h=>?_) (fun cdv A outer s H vs Q E hr h=>?_)
 ·obtain ⟨a,ys,rfl,_⟩:=h
  rfl
 ·obtain ⟨a,ys,rfl,ha,yl,tx,k,kx⟩:=h
  obtain ⟨t4,m4⟩:=TY.mn
  have hr1:Room 1 _:=hr.mono (by decide)
  have hr3:Room 3 _:=hr.mono (by decide)
  refine ⟨_,(pss_cons
 (ps_if (pt_cmpR op_gt (pe_callB call_len_seq (by rfl) T.len bt_len (pa_cons (pv 0) pa_nil)) (pe_glob (v:=.int 4) rfl m4 ⟨_,rfl⟩) (nomark _)) (pss_one
  (ps_raise (B:="ValueError") (newId:="ValueError.__new__") (W:=E)
   (pe_makeX (E:=E0) PySem.F.excBase_ValueError WP.e.x WP.i WP.n GB hr3 (by rfl) WP.mg WP.b .nil pass0 (pa_cons (pe_fstr (pf_val (pe_callB call_len_seq (by rfl) T.len bt_len (pa_cons (pv 0) pa_nil)) (pf_txt (pf_val (pe_glob (v:=.int 4) rfl m4 ⟨_,rfl⟩) pf_nil)))) pa_nil)) rfl rfl (fun pins σ H' s' e cls dd I x q=>xe1 I x q))) pss_nil)
 (pss_one
 (ps_for PassesOwn.leaving rfl (pi_enumT rfl TY.en bt_enumerate (pa_cons (pv 0) pa_nil)) (pg_tup rfl (pgs_cons (pg_name (i:=1) scNk.nd rfl (Or.inl rfl)) (pgs_cons (pg_name (i:=2) scNk.nd rfl (Or.inl rfl)) pgs_nil))) (pss_one
  (ps_if (PW.pt (pw_or (pt_not (pt_val (pe_call (E:=E0) GI hr1 rfl DI.mg DI.F.kp DI.b .nil pass0 (pa_cons (pv 2) pa_nil)))) (pw_or1 (pt_cmpR op_in_seq (pv 2) (pe_slice sl_tupW (pv 0) po_none (po_some (pv 1))) rfl)))) (pss_one
   (ps_raise (B:="ValueError") (newId:="ValueError.__new__") (W:=E)
    (pe_makeX (E:=E0) PySem.F.excBase_ValueError WP.e.x WP.i WP.n GB hr3 (by rfl) WP.mg WP.b .nil pass0 (pa_cons (pe_fstr (pf_repr hr.units hr.gd (pv 2) (pf_txt pf_nil))) pa_nil)) rfl rfl (fun pins σ H' s' e cls dd I x q=>xe1 I x q))) pss_nil))))),?_⟩
  have big:200000≤sizeLine:=by decide
  have lm:(ys.map V.str).length=ys.length:=List.length_map ..
  refine ⟨_,rfl,a,_,rfl,.inr ha,_,_,rfl,rfl,_,rfl,ite2 (fun h=>?_) (fun h=>?_)⟩
  ·have h5:4<ys.length:=by simp at h;omega
   have hl:=far_len (i:=((ys.map V.str).length:Nat)) (by simp only [Far];omega) (by simp only [Far];omega)
   have hl4:=far_len (i:=4) (by decide) (by decide)
   refine raise_w (EvF.int (i:=((ys.map V.str).length:Nat)) (fun Q q=>⟨_,rfl,a,_,rfl,.inr ha,q⟩) hl (EvF.txt (m:=100) (by decide +kernel) (EvF.int EvE.con hl4 EvF.nil))) (by decide) WP.e (Same.refl _) (fun da H' th=>kx ?_ H da H' (Same.refl _) th)
   unfold keysB
   rw [decide_eq_false (by omega)];rfl
  ·have h5:ys.length≤4:=by simp at h;omega
   refine ⟨_,rfl,a,rfl,⟨_,ha⟩,?_⟩
   refine for_enumT (K:=K) (a:=a) (xs:=ys.map V.str) (fun i σ' H'=>(∃ u1 u2,σ'=[some (.ref a),u1,u2])/\Same H H'/\(ys.take i).Nodup/\∀ y∈ys.take i,nameB y=true) ⟨⟨_,_,rfl⟩,Same.refl _,by simp,by simp⟩ (fun i σ' H' _ ⟨_,s',_⟩=>s'.tup ha) ?_ ?_
   ·rintro i v σ' H2 t hv ⟨⟨u1,u2,rfl⟩,s2,nd,nm⟩ ht
    rw [List.getElem?_map] at hv
    obtain ⟨x,hx,rfl⟩:∃ x,ys[i]?=some x/\V.str x=v:=by
     cases hj:ys[i]? with
     |none=>rw [hj] at hv;cases hv
     |some x=>rw [hj] at hv;exact ⟨x,rfl,by simpa using hv⟩
    have s3:Same H2 (upd H2 t (.tup [.int (i:Nat),.str x])):=Same.new ht
    refine ⟨t,_,rfl,SqT.of upd_same,rfl,_,_,rfl,_,_,rfl,rfl,?_⟩
    have S3:=s2.trans s3
    generalize upd H2 t (.tup [.int (i:Nat),.str x])=H3 at s3 S3 ⊢
    have mx:=List.mem_of_getElem? hx
    obtain ⟨ax,x40⟩:=tx x mx
    have il:i<ys.length:=(List.getElem?_eq_some_iff.mp hx).1
    have ec:cutV (ys.map V.str) none (some (i:Int))=(ys.take i).map V.str:=by rw [cut_pre (by rw [List.length_map];omega),← List.map_take]
    have e1:((" is no name, or stands twice" : Str)).length=28:=by decide +kernel
    have sd:=showA ax (by omega)
    have sl:=shown_len ax (by omega)
    have tk:ys.take (i+1)=ys.take i++[x]:=by rw [List.take_add_one,hx];rfl
    refine ⟨_,rfl,x,rfl,by omega,?_⟩
    have rais:∀ H4,Same H H4->keysB ys=false->∀ e,H4 e=none->∀ da,(upd H4 e (excO e cK none)) da=none->True:=fun _ _ _ _ _ _ _=>trivial
    clear rais
    cases hb:nameB x with
    | false=>
      have bad:keysB ys=false:=by
       unfold keysB
       have:ys.all nameB=false:=by
        rw [List.all_eq_false];exact ⟨x,mx,by rw [hb];decide⟩
       rw [this];simp
      refine ⟨_,rfl,ifT rfl (ifT rfl ?_)⟩
      refine ⟨_,rfl,.str x,rfl,.str x,sd,?_,?_,?_,fun e he=>⟨e,cK,_,rfl,WP.e,upd_same,fun da hda=>⟨rfl,e,cK,some da,rfl,?_,none_back S3 he,WP.e.x,kx bad H3 da _ S3 (thrown_of he hda)⟩⟩⟩
      all_goals (try rw [Str.empty_append])
      all_goals (try (first|omega|(simp only [Str.length_append,e1];omega)))
      have ne:e≠da:=fun q=>by subst q;rw [upd_same] at hda;cases hda
      rw [upd_ne ne,upd_same]
    | true=>
      refine ⟨_,rfl,ifF rfl ?_⟩
      refine ⟨_,rfl,_,rfl,_,rfl,_,rfl,slw (S3.tup ha) ec fun l H4 s4 h4=>?_⟩
      have S4:=S3.trans s4
      refine ⟨l,_,rfl,.inr h4,rfl,flat_str _,_,rfl,?_⟩
      by_cases hin:x∈ys.take i
      ·have bad:keysB ys=false:=by
        unfold keysB
        have:¬ ys.Nodup:=fun nd'=>by
         have:=nd'.sublist (List.take_sublist (i+1) ys)
         rw [tk,List.nodup_append] at this
         exact this.2.2 x hin x (by simp) rfl
        rw [decide_eq_false this];simp
       refine ifT (by show inV (.str x) _=true;rw [inV_str];exact decide_eq_true hin) ?_
       refine ⟨_,rfl,.str x,rfl,.str x,sd,?_,?_,?_,fun e he=>⟨e,cK,_,rfl,WP.e,upd_same,fun da hda=>⟨rfl,e,cK,some da,rfl,?_,none_back S4 he,WP.e.x,kx bad H4 da _ S4 (thrown_of he hda)⟩⟩⟩
       all_goals (try rw [Str.empty_append])
       all_goals (try (first|omega|(simp only [Str.length_append,e1];omega)))
       have ne:e≠da:=fun q=>by subst q;rw [upd_same] at hda;cases hda
       rw [upd_ne ne,upd_same]
      ·refine ifF (by show inV (.str x) _=false;rw [inV_str];exact decide_eq_false hin) ⟨⟨_,_,rfl⟩,S4,?_,?_⟩
       ·rw [tk,List.nodup_append]
        refine ⟨nd,by simp,fun p hp q hq z=>?_⟩
        rw [List.mem_singleton] at hq
        subst hq;subst z
        exact hin hp
       ·rw [tk]
        intro y hy
        rcases List.mem_append.mp hy with hy|hy
        ·exact nm y hy
        ·rw [List.mem_singleton.mp hy];exact hb
   ·rintro σ' H' ⟨_,s',nd,nm⟩
    rw [lm,List.take_length] at nd nm
    refine k ?_ H' s'
    unfold keysB
    rw [decide_eq_true h5,decide_eq_true nd,List.all_eq_true.mpr nm];rfl
end
abbrev tM (j:Nat):Stmt:=inClass (top 28) j
def dueN (d:PyData) (ys:List Str) (m:Int):Option Nat:=if testB d=true then (if keysB ys=true then (if 1≤m/\m≤64 then none else some 2) else some 1) else some 0
def wdT:Nat->Str
 |0=>"badtest"
 |1=>"badkeys"
 |_=>"badsize"
def clT (cT cK cZ:Addr):Nat->Addr
 |0=>cT
 |1=>cK
 |_=>cZ
def TxI (i:Int):Prop:=-(Far+2)≤i/\i≤Far+2
theorem TxI.len {i:Int} (h:TxI i):i.natAbs.log2<1920/\(Str.ofString (toString i)).length≤1000:=far_len h.1 h.2
def taF (x:V) (a c:Addr) (m:Int):List (Str×V):=[("test",x),("named",.ref a),("most",.int m),("counted",.ref c),("beyond",.int 0)]
def TaAt (cL:Addr) (H:Hp) (o:Addr):Prop:=∃ dx x a c m,H o=some (.ins cL dx (taF x a c m))/\H c=some (.dK [])
structure TaZ (K:Frag) (mg:Str->Option Value) (cL:Addr):Prop where
 c:Cls K cL
 mg:mg "Tally" = some (.ref cL)
 f1:NoAttr K cL "test"
 f2:NoAttr K cL "named"
 f3:NoAttr K cL "most"
 f4:NoAttr K cL "counted"
 f5:NoAttr K cL "beyond"
 nb:PySem.W.findIn K (.ref cL) "__bool__" = some none
section
variable {P:Program} {w:World} {K:PySem.W.Frag} {mg:Str->Option Value} {base:Heap}
def spTI (K:Frag) (cL cT cK cZ:Addr):Sp:=fun vs H Q E=>∃ (o dx a:Addr) (x:V) (d:PyData) (ys:List Str) (m:Int),vs=[.ref o,x,.ref a,.int m]/\H o=some (.ins cL dx [])/\Rep K H x d/\TD d/\SqT K H a (ys.map V.str)/\ys.length≤20/\(∀ y∈ys,Asc y/\y.length≤40)/\TxI m/\
 (dueN d ys m=none->∀ H',TaAt cL H' o->(∀ b u,H b=some u->b≠o->H' b=some u)->Q .non H')/\(∀ n,dueN d ys m=some n->∀ H1 da H',Same H H1->Thrown H1 [("word",.str (wdT n))] da H'->E (.ref (clT cT cK cZ n)) (some da) H')
abbrev NTI:List Str:=["self","test","keys","most"]
theorem scTI:FnScope NTI NTI (defScope (tM 0)):=⟨rfl,rfl,rfl,by decide +kernel,rfl,by decide +kernel,by decide +kernel⟩
theorem ok_ti {f fT fK cL cT cK cZ fZ:Addr} {fd fdT fdK fdZ:FuncData} (F:Fun K "__init__" "Tally.__init__" (tM 0) f fd) (T:Txt K mg) (TY:TxtY mg) (Z:TaZ K mg cL)
 (DT:Def K mg "need_test" (top 22) ["test"] fT fdT) (GT:FnOk P w K mg base (CX1 P w) 11 fT fdT ["test"] (spNt K cT)) (DK:Def K mg "need_keys" (top 27) ["keys"] fK fdK) (GK:FnOk P w K mg base (CX1 P w) 5 fK fdK ["keys"] (spNk K cK))
 (WZ:WCls K mg "BadSize" cZ fZ fdZ) (GZ:FnOk P w K mg base CX0 2 fZ fdZ ["self","words"] (spW K "badsize")):FnOk P w K mg base (CX1 P w) 12 f fd NTI (spTI K cL cT cK cZ):=by
 refine F.ok1 scTI (fun vs H Q E h=>?_) (fun cdv A outer s H vs Q E hr h=>?_)
 ·obtain ⟨o,dx,a,x,d,ys,m,rfl,_⟩:=h
  rfl
 ·obtain ⟨o,dx,a,x,d,ys,m,rfl,ho,rx,td,ha,yl,tx,tm,k,kx⟩:=h
  obtain ⟨t64,m64⟩:=TY.kl
  have hr3:Room 3 (A.deeper (PyProof.Rows.envOfC "Tally.__init__" (defScope (tM 0)) s.heap.objs.size f cdv)):=hr.mono (by decide)
  have hr5:Room 5 (A.deeper (PyProof.Rows.envOfC "Tally.__init__" (defScope (tM 0)) s.heap.objs.size f cdv)):=hr.mono (by decide)
  refine ⟨_,(pss_cons (ps_expr (pe_call (E:=E) GT hr rfl DT.mg DT.F.kp DT.b .nil (pass1 fun _ _ _ h=>h) (pa_cons (pv 1) pa_nil)))
   (pss_cons (ps_expr (pe_call (E:=E) GK hr5 rfl DK.mg DK.F.kp DK.b .nil (pass1 fun _ _ _ h=>h) (pa_cons (pv 2) pa_nil)))
   (pss_cons (ps_if (pt_not (pt_chain op_le op_le pe_int (pv 3) (pe_glob (v:=.int 64) rfl m64 ⟨_,rfl⟩))) (pss_one (ps_raise (B:="ValueError") (newId:="ValueError.__new__") (W:=E)
    (pe_makeX (E:=E0) PySem.F.excBase_ValueError WZ.e.x WZ.i WZ.n GZ hr3 (by rfl) WZ.mg WZ.b .nil pass0 (pa_cons (pe_fstr (pf_txt (pf_val (pv 3) (pf_txt pf_nil)))) pa_nil)) rfl rfl (fun pins σ H' s' e cls dd I x q=>xe1 I x q))) pss_nil)
   (pss_cons (ps_fld (pv 0) (pv 1) rfl) (pss_cons (ps_fld (pv 0) (pe_callTy call_tuple_of (by rfl) T.tuple bt_tuple (pa_cons (pv 2) pa_nil)) rfl) (pss_cons (ps_fld (pv 0) (pv 3) rfl) (pss_cons (ps_fld (pv 0) pe_dnewK rfl) (pss_one (ps_fld (pv 0) pe_int rfl))))))))),?_⟩
  unfold dueN at k kx
  refine ⟨_,rfl,x,d,rfl,rx,td,fun h1 H1 s1=>?_,fun h1 H1 da H' s1 th=>?_⟩
  ·rw [if_pos h1] at k kx
   refine ⟨_,rfl,a,ys,rfl,s1.tup ha,yl,tx,fun h2 H2 s2=>?_,fun h2 H2 da H' s2 th=>?_⟩
   ·rw [if_pos h2] at k kx
    have S2:=s1.trans s2
    refine EvT.iff (EvT.not (EvT.test (EvE.chain EvE.con (EvE.var rfl) EvE.con EvR.i0 EvR.i0))) (ite2 (fun h=>?_) (fun h=>?_))
    ·have h3:¬ (1≤m/\m≤64):=fun z=>by simp [z.1,z.2] at h
     rw [if_neg h3] at kx
     exact raise_w (wd:="badsize") (EvF.txt (m:=100) (by decide +kernel) (EvF.int (EvE.var rfl) tm.len (EvF.txt (m:=100) (by decide +kernel) EvF.nil))) (by decide) WZ.e S2 (fun da H' th=>kx 2 rfl H2 da H' S2 th)
    ·have h3:1≤m/\m≤64:=by simpa using h
     rw [if_pos h3] at k
     have h2o:=S2 _ _ ho
     refine ⟨_,rfl,_,rfl,o,cL,dx,[],rfl,h2o,Z.c,Z.f1,(show 0<1000 by decide),?_⟩
     have no:∀ {b u},H b=some u->b≠o->(upd H2 o (.ins cL dx (putF "test" x []))) b=some u:=fun e nb=>by rw [upd_ne nb];exact S2 _ _ e
     have sqa:SqT K (upd H2 o (.ins cL dx (putF "test" x []))) a (ys.map V.str):=by
      rcases S2.tup ha with q|q
      ·rcases q with q|⟨o',q⟩
       ·have nb:a≠o:=fun z=>by rw [z,h2o] at q;cases q
        exact .inl (.inl (by rw [upd_ne nb];exact q))
       ·have nb:a≠o:=fun z=>by rw [z,h2o] at q;cases q
        exact .inl (.inr ⟨o',by rw [upd_ne nb];exact q⟩)
      ·exact .inr q
     refine ⟨_,rfl,a,_,rfl,.inr ⟨sqa,?_⟩⟩
     refine ⟨_,rfl,o,cL,dx,_,rfl,upd_same,Z.c,Z.f2,(show 1<1000 by decide),?_⟩
     refine ⟨_,rfl,_,rfl,o,cL,dx,_,rfl,upd_same,Z.c,Z.f3,(show 2<1000 by decide),?_⟩
     generalize hH3:upd (upd (upd H2 o _) o _) o _=H3
     have k3:∀ b,b≠o->H3 b=H2 b:=fun b nb=>by rw [← hH3,upd_ne nb,upd_ne nb,upd_ne nb]
     have e3:H3 o=some (.ins cL dx [("test",x),("named",.ref a),("most",.int m)]):=by rw [← hH3,upd_same];rfl
     clear hH3
     refine fun c hc=>⟨_,rfl,o,cL,dx,_,rfl,Same.new hc _ _ e3,Z.c,Z.f4,(show 3<1000 by decide),?_⟩
     have nco:c≠o:=fun z=>by rw [z,e3] at hc;cases hc
     refine ⟨_,rfl,o,cL,dx,_,rfl,upd_same,Z.c,Z.f5,(show 4<1000 by decide),?_⟩
     refine k rfl _ ⟨dx,x,a,c,m,by rw [upd_same];rfl,by rw [upd_ne nco,upd_ne nco,upd_same]⟩ fun b u e nb=>?_
     have e2:=S2 _ _ e
     rw [upd_ne nb,upd_ne nb,upd_ne (fun z=>by rw [← z,k3 _ nb,e2] at hc;cases hc),k3 _ nb]
     exact e2
   ·rw [if_neg (by rw [h2];decide)] at kx
    exact kx 1 rfl H2 da H' (s1.trans s2) th
  ·rw [if_neg (by rw [h1];decide)] at kx
   exact kx 0 rfl H1 da H' s1 th
def spTb (cL:Addr):Sp:=fun vs H Q _=>∃ o,vs=[.ref o]/\TaAt cL H o/\∀ l H',Same H H'->H' l=some (.lst [])->Q (.ref l) H'
theorem scTb:FnScope ["self"] ["self"] (defScope (tM 2)):=⟨rfl,rfl,rfl,by decide +kernel,rfl,by decide +kernel,by decide +kernel⟩
theorem ok_tb {f cL:Addr} {fd:FuncData} (F:Fun K "table" "Tally.table" (tM 2) f fd) (hs:mg "sorted" = none) (Z:TaZ K mg cL):FnOk P w K mg base CX0 1 f fd ["self"] (spTb cL):=by
 refine F.ok scTb (fun vs H Q E h=>?_) (fun cdv A outer s H vs Q E hr h=>?_)
 ·obtain ⟨o,rfl,_⟩:=h
  rfl
 ·obtain ⟨o,rfl,⟨dx,x,a,c,m,ho,hc⟩,k⟩:=h
  refine ⟨_,(pss_one (ps_ret (pe_callB (call_sorted0 rfl) (by rfl) hs bt_sorted (pa_cons (pe_bm0 PySem.F.plainAttrs_dict PySem.F.slot_dict_items PySem.F.type_dict_items mt_items (pe_fld (pv 0) rfl)) pa_nil)))),?_⟩
  refine ⟨_,rfl,o,cL,dx,_,_,rfl,ho,Z.c,Z.f4,rfl,.inr (.inr (.inl ⟨rfl,.inl ⟨_,hc⟩⟩)),c,_,rfl,rfl,hc,fun v hv=>?_⟩
  refine ⟨v,c,rfl,upd_same,Same.new hv _ _ hc,fun l hl=>?_⟩
  exact k l _ ((Same.new hv).trans (Same.new hl)) upd_same
def spTd (cL:Addr):Sp:=fun vs H Q _=>∃ o,vs=[.ref o]/\TaAt cL H o/\Q (.int 0) H
theorem scTd:FnScope ["self"] ["self"] (defScope (tM 3)):=⟨rfl,rfl,rfl,by decide +kernel,rfl,by decide +kernel,by decide +kernel⟩
theorem ok_td {f cL:Addr} {fd:FuncData} (F:Fun K "dropped" "Tally.dropped" (tM 3) f fd) (Z:TaZ K mg cL):FnOk P w K mg base CX0 1 f fd ["self"] (spTd cL):=by
 refine F.ok scTd (fun vs H Q E h=>?_) (fun cdv A outer s H vs Q E hr h=>?_)
 ·obtain ⟨o,rfl,_⟩:=h
  rfl
 ·obtain ⟨o,rfl,⟨dx,x,a,c,m,ho,hc⟩,k⟩:=h
  exact ⟨_,(pss_one (ps_ret (pe_fld (pv 0) rfl))),_,rfl,o,cL,dx,_,_,rfl,ho,Z.c,Z.f5,rfl,k⟩
theorem scTl:FnScope ["self"] ["self"] (defScope (tM 5)):=⟨rfl,rfl,rfl,by decide +kernel,rfl,by decide +kernel,by decide +kernel⟩
theorem ok_tl {f cL:Addr} {fd:FuncData} (F:Fun K "__len__" "Tally.__len__" (tM 5) f fd) (T:Txt K mg) (Z:TaZ K mg cL):FnOk P w K mg base CX0 1 f fd ["self"] (spTd cL):=by
 refine F.ok scTl (fun vs H Q E h=>?_) (fun cdv A outer s H vs Q E hr h=>?_)
 ·obtain ⟨o,rfl,_⟩:=h
  rfl
 ·obtain ⟨o,rfl,⟨dx,x,a,c,m,ho,hc⟩,k⟩:=h
  exact ⟨_,(pss_one (ps_ret (pe_callB call_lenD (by rfl) T.len bt_len (pa_cons (pe_fld (pv 0) rfl) pa_nil)))),_,rfl,o,cL,dx,_,_,rfl,ho,Z.c,Z.f4,rfl,c,_,rfl,hc,k⟩
end
def forBody:Stmt->List Stmt
 |.For _ _ b _ _=>b
 |_=>[]
def lParams:Expr->Arguments
 |.Lambda p _ _ _=>p
 |_=>{ posonlyargs:=[],args:=[],vararg:=none,kwonlyargs:=[],kw_defaults:=[],kwarg:=none,defaults:=[] }
def lBody:Expr->Expr
 |.Lambda _ b _ _=>b
 |e=>e
def lScope:Expr->Scope
 |.Lambda _ _ s _=>s
 |_=>{ kind:=.function,names:=[],isGenerator:=false,isCoroutine:=false }
def lPos:Expr->Pos
 |.Lambda _ _ _ p=>p
 |_=>⟨0,0,0,0⟩
def lamOf:Stmt->Expr
 |.Assign _ (.Call _ (e::_) _ _) _=>e
 |_=>.Constant .none 0 ⟨0,0,0,0⟩
def lamT:Expr:=lamOf ((forBody ((defBody (top 50)).getD 1 (.Pass ⟨0,0,0,0⟩))).getD 8 (.Pass ⟨0,0,0,0⟩))
abbrev NL:List Str:=["_law_probe","_law_cols","_law_few"]
theorem _root_.L2.TabI.but {H H':Hp} {T p dc:Addr} {qual:Str} {lps:List Pos} (h:TabI H T qual lps) (D:Dr H p dc) (b:But p H H'):TabI H' T qual lps:=h.keep fun q u e ne=>b q u e (D.ne e ne)
structure BadT (K:Frag) (cT cV cS:Addr):Prop where
 nv:mroIn K cT (.ref cV)=some false
 se:mroIn K cT (.ref cS)=some true
 gt:XGet K cT "word"
def gT:List Value->List Value->List Value
 |[a,b,c],[d]=>[a,b,c,d]
 |_,_=>[]
def gVT:List V->List V->List V
 |[a,b,c],[d]=>[a,b,c,d]
 |_,_=>[]
def rTup (K:Frag):List V->Hp->VK->Prop:=fun xs H Q=>∃ p ys,xs=[.ref p]/\((SqL K H p ys/\∀ l,H l=none->Q (.ref l) (upd H l (.tup ys)))∨(SqT K H p ys/\Q (.ref p) H))
section
variable {P:Program} {w:World} {K:PySem.W.Frag} {mg:Str->Option Value} {base:Heap}
def rAskT (K:Frag) (cL:Addr) (qual:Str) (cl:List (Str×Addr)) (pm:Value):St->List V->Hp->VK->Prop:=fun σ vs H Q=>∃ f c' ctv x d q ys m,vs=[.ref f]/\H f=some (lamO f (kla_obj "<lambda>" qual (lParams lamT) (lBody lamT) (lScope lamT) cl pm c' ctv))/\H c'=some (codeO c' qual)/\
 σ[4]?=some (some x)/\σ[5]?=some (some (.ref q))/\σ[7]?=some (some (.int m))/\Rep K H x d/\TD d/\SqL K H q (ys.map V.str)/\ys.length≤20/\(∀ y∈ys,Asc y/\y.length≤40)/\TxI m/\
 (dueN d ys m=none->∀ o H',TaAt cL H' o->Same H H'->∀ l,H' l=none->Q (.ref l) (upd H' l (.lst [.str "",.ref o])))/\(∀ n,dueN d ys m=some n->∀ H',Same H H'->∀ l,H' l=none->Q (.ref l) (upd H' l (.lst [.str (wdT n),.non])))
theorem ask_T {X:Cx} {fN cV cS cM cL cT cK cZ:Addr} {fdN:FuncData} {qual:Str} {cl:List (Str×Addr)} {pm:Value} {E:XK} {pins:List (Addr×Obj)} {σ:St} {H:Hp} {s:Shared} {vs:List V} {Q:VK}
 (hcl:∀ p∈cl,X.env.cells.lookup p.1=some p.2) (hfn:∀ x,X.fn x=true) (hhas:∀ p∈(lScope lamT).names,(p.2=.cell∨p.2=.free)->p.1∈cl.map (·.1)) (hown:∀ x∈NL,X.env.scope.names.lookup x=some .cell) (hN:[X.N[4]?,X.N[5]?,X.N[7]?]=NL.map some) (hst:X.stack=X.env::X.outer) (hfm:X.env.frame=some X.env.locals)
 (T:Txt X.K X.mg) (Z:TaZ X.K X.mg cL) (M:Mk X.K cL fN) (kb:KBinds X.K fdN NTI ["most"] gT gVT) (GN:FnOk X.prog X.w X.K X.mg X.base (CX1 X.prog X.w) 12 fN fdN NTI (spTI X.K cL cT cK cZ)) (BT:∀ n,BadT X.K (clT cT cK cZ n) cV cS)
 (I:Inv X pins σ H s) (h:rAskT X.K cL qual cl pm σ vs H Q):spAsk X.prog X.w X.K X.mg X.base 14 cV cS cM s X.stack vs H Q E:=by
 obtain ⟨f,c',ctv,x,d,q,ys,m,rfl,ho,hc,h4,h5,h7,rd,td,hq,yl,tx,tm,kv,ke⟩:=h
 have Cl:=clos_of (scope:=lScope lamT) (NL:=NL) (js:=[4,5,7]) I hcl hfn hhas (by decide +kernel) hown (by rw [← hN];rfl) hst hfm
 have ev:freeV [4,5,7] σ=[some x,some (.ref q),some (.int m)]:=by
  unfold freeV
  rw [List.map_cons,List.map_cons,List.map_cons,List.map_nil,h4,h5,h7]
  rfl
 rw [ev] at Cl
 refine ⟨f,fun v H'=>∃ o,v=.ref o/\dueN d ys m=none/\Same H H'/\TaAt cL H' o,fun cls dd H'=>∃ n H1 da,dueN d ys m=some n/\cls=.ref (clT cT cK cZ n)/\dd=some da/\Same H H1/\Thrown H1 [("word",.str (wdT n))] da H',rfl,?_,?_,?_⟩
 ·refine thunk_lam (N:=NL) (k:=13) ho hc Cl rfl rfl rfl rfl (by decide +kernel) (fun A outer s hr=>pe_makeK M GN hr rfl Z.mg kb (passL fun _ _ _ h=>h) (pa_cons (pv 0) (pa_cons (pe_callTy (r:=rTup X.K) call_tuple_of (by rfl) T.tuple bt_tuple (pa_cons (pv 1) pa_nil)) pa_nil)) (pk_cons (pv 2) pk_nil)) ?_
  refine ⟨_,rfl,_,rfl,q,_,rfl,.inl ⟨hq,fun a ha=>?_⟩⟩
  have s1:Same H (upd H a (.tup (ys.map V.str))):=Same.new ha
  have sa:SqT X.K (upd H a (.tup (ys.map V.str))) a (ys.map V.str):=SqT.of upd_same
  generalize upd H a (.tup (ys.map V.str))=H1 at s1 sa ⊢
  refine ⟨_,rfl,fun o dx hno hnd ne=>?_⟩
  have s2:Same H1 (upd (upd H1 dx (.own o)) o (.ins cL dx [])):=fun b u e=>by
   rw [upd_ne (ne_of_none e hno),upd_ne (ne_of_none e hnd)];exact e
  refine ⟨o,dx,a,x,d,ys,m,rfl,upd_same,(rd.same s1).same s2,td,s2.tup sa,yl,tx,tm,fun h0 H2 ta kp=>⟨rfl,o,rfl,h0,fun b u e=>?_,ta⟩,fun n h0 H2 da H3 s3 th=>⟨n,H2,da,h0,rfl,rfl,(s1.trans s2).trans s3,th⟩⟩
  exact kp b u (s2 _ _ (s1 _ _ e)) (ne_of_none (s1 _ _ e) hno)
 ·rintro v H' ⟨o,rfl,h0,s1,ta⟩ l hl
  exact kv h0 o H' ta s1 l hl
 ·rintro cls dd H' ⟨n,H1,da,h0,rfl,rfl,s1,d0,rfl⟩
  refine ⟨_,da,_,wdT n,rfl,rfl,upd_same,.inr (.inl ⟨(BT n).nv,(BT n).se,(BT n).gt,?_⟩),fun l hl=>ke n h0 _ (fun b u e=>?_) l hl⟩
  ·rw [List.lookup_cons,show (("word" : Str) == ("word" : Str))=true from by decide +kernel]
  ·rw [upd_ne (ne_of_none (s1 _ _ e) d0)];exact s1 _ _ e
end
theorem _root_.L2.TabI.put {H:Hp} {T q:Addr} {ys:List V} {o:HO} {qual:Str} {lps:List Pos} (h:TabI H T qual lps) (hq:H q=some (.lst ys)):TabI (upd H q o) T qual lps:=by
 obtain ⟨ps,h1,h2,h3⟩:=h
 refine ⟨ps,by rw [upd_ne (ne_of h1 hq (by intro z;cases z))];exact h1,h2,fun lp m=>?_⟩
 rcases h3 lp m with z|⟨c',z,e⟩
 ·exact .inl z
 ·exact .inr ⟨c',z,by rw [upd_ne (ne_of e hq (by intro z;exact HO.noConfusion z))];exact e⟩
structure MD (K:PySem.W.Frag) (C:Addr) (m qual:Str) (st:Stmt) (ps:List Str) (f:Addr) (fd:FuncData):Prop where
 M:Meth K C m f
 F:Fun K m qual st f fd
 b:Binds K fd ps []
theorem Lam.keeps {H H1:Hp} {T c' f':Addr} {lp:Pos} {qual:Str} (lm:Lam H T lp qual c' H1) (hf:H1 f'=none) {o:HO}:∀ b u,H b=some u->(∀ qs,u≠.tbl qs)->(upd H1 f' o) b=some u:=fun b u e ne=>by
 have e9:=lm.keep e ne
 rw [upd_ne (ne_of_none e9 hf)];exact e9
theorem Dr.keeps {H H':Hp} {p dc:Addr} (D:Dr H p dc) (k:∀ b u,H b=some u->(∀ qs,u≠.tbl qs)->H' b=some u):Dr H' p dc:=by
 obtain ⟨ms,ba,br,bs,e1,e2,rest⟩:=D.ex
 exact ⟨ms,ba,br,bs,k _ _ e1 (by intro _ z;cases z),k _ _ e2 (by intro _ z;cases z),rest⟩
theorem Rep.keeps {K:Frag} {H H':Hp} (k:∀ b u,H b=some u->(∀ qs,u≠.tbl qs)->H' b=some u) {v:V} {d:PyData} (h:Rep K H v d):Rep K H' v d:=by
 refine h.map (fun a xs q=>?_) (fun a xs q=>?_)
 ·rcases q with (q|⟨o,q⟩)|q
  ·exact .inl (.inl (k _ _ q (by intro _ z;cases z)))
  ·exact .inl (.inr ⟨o,k _ _ q (by intro _ z;cases z)⟩)
  ·exact .inr q
 ·rcases q with (q|⟨o,q⟩)|q
  ·exact .inl (.inl (k _ _ q (by intro _ z;cases z)))
  ·exact .inl (.inr ⟨o,k _ _ q (by intro _ z;cases z)⟩)
  ·exact .inr q
theorem kb_tally {K:PySem.W.Frag} {fd:FuncData} (h:∀ (S:Setting) (x a b c:Value),PySem.W.peek K S (bindArgs fd ⟨[x,a,b],[("most",c)]⟩)=some ([("self",x),("test",a),("keys",b),("most",c)]:List (Str×Value))):KBinds K fd NTI ["most"] gT gVT:=by
 refine ⟨fun s us ws X hl=>?_,fun {vs us zs ws} r rz=>?_⟩
 ·match us,ws,hl with
  |[x,a,b],[c],_=>exact PySem.W.kp_binds X fun S=>h S x a b c
  |[],_,z=>simp [gT] at z
  |[_],_,z=>simp [gT] at z
  |[_,_],_,z=>simp [gT] at z
  |[_,_,_],[],z=>simp [gT] at z
  |[_,_,_],_::_::_,z=>simp [gT] at z
  |_::_::_::_::_,_,z=>simp [gT] at z
 ·cases r with
  |nil=>exact .nil
  | cons r1 r=>
    cases r with
    |nil=>exact .nil
    | cons r2 r=>
      cases r with
      |nil=>exact .nil
      | cons r3 r=>
        cases r with
        |cons r4 r=>exact .nil
        | nil=>
          cases rz with
          |nil=>exact .nil
          | cons z1 z=>
            cases z with
            |cons z2 z=>exact .nil
            |nil=>exact .cons r1 (.cons r2 (.cons r3 (.cons z1 .nil)))
def wordN:Option Nat->Str
 |none=>""
 |some n=>wdT n
theorem strs_rep {K:Frag} {H:Hp}:∀ cs:List Str,Reps K H (cs.map V.str) (cs.map PyData.str)
 |[]=>.nil
 |y::r=>.cons (.str y) (strs_rep r)
theorem strs_deps:∀ cs:List Str,pdDeps (cs.map PyData.str)≤60
 |[]=>by simp [pdDeps]
 | y::r=>by
   have:=strs_deps r
   simp only [List.map_cons,pdDeps,pdDep]
   omega
theorem ixN_nat {n j:Nat} (h:j<n):ixN n (j:Int)=some j:=by
 unfold ixN
 rw [if_pos (by omega)]
 simp [h]
abbrev qL:Str:="law.<locals>."++"<lambda>"
abbrev NLaw:List Str:=["_law_script","_law_d","_law_turn","_law_names","_law_probe","_law_cols","_law_at","_law_few","_law_due","_law_word_here","_law_tally","_law_found"]
def clL (n:Nat):List (Str×Addr):=[("_law_probe",n+1+1+1),("_law_few",n+1+1),("_law_cols",n+1)]
theorem scLaw:FnScope NLaw ["_law_script"] (defScope (top 50)):=⟨rfl,rfl,rfl,by decide +kernel,rfl,by decide +kernel,by decide +kernel⟩
section
variable {P:Program} {w:World} {K:PySem.W.Frag} {mg:Str->Option Value} {base:Heap}
def spLaw (K:PySem.W.Frag) (Tt:Addr) (ps:Array Value):Sp:=fun vs H Q _=>∃ (a:Addr) (ns:List Int),vs=[.ref a]/\SqL K H a (ns.map V.int)/\ns.length≤63/\H Tt=some (.tbl ps)/\∀ H',Q (.bl true) H'
theorem ok_law {f c Tt fB fP fO fW fWs fS fA fTe fBt fTo fN fOd fFr fI fTb fTd fTl cL cV cS cM cT cK cZ:Addr} {fdB fdP fdO fdW fdWs fdS fdA fdTe fdBt fdTo fdN fdOd fdFr fdI fdTb fdTd fdTl:FuncData} {oc kV doc pm ct:Value} {od an:Option Addr} {osl:Array (Option Value)} {ps:Array Value}
 (lk:K.lookup f=some ⟨oc,od,.func (PySem.W.fnOf "law" "law" (defArgs (top 50)) (defBody (top 50)) (defScope (top 50)) .none kV doc pm an (.ref c) ct),osl⟩) (hcd:PySem.W.codeIn K (.ref c) "law" = true)
 (HT:CodeHd base c Tt) (HB:base.BuiltinsAt mg Tt) (HG:mainGlobals≠Tt) (tri:TriplesOk ps.toList) (cn:∀ lp∈[lPos lamT],codeAmong lp ps.toList=none)
 (T:Txt K mg) (hset:mg "set" = none) (Z:TaZ K mg cL) (BT:∀ n,BadT K (clT cT cK cZ n) cV cS)
 (DB:Def K mg "_law_begin" (top 30) ["_law_script"] fB fdB) (DP:Def K mg "_law_pick" (top 31) ["_law_d","_law_many"] fP fdP) (DO:Def K mg "_law_of" (top 32) ["_law_d","_law_things"] fO fdO)
 (DW:Def K mg "_law_word" (top 35) ["_law_d"] fW fdW) (DWs:Def K mg "_law_words" (top 36) ["_law_d","_law_many"] fWs fdWs) (DS:Def K mg "_law_same" (top 34) ["_law_found","_law_due"] fS fdS)
 (DTe:Def K mg "_law_test" (top 45) ["_law_d","_law_names","_law_kinds"] fTe fdTe) (GTe:FnOk P w K mg base CX0 10 fTe fdTe ["_law_d","_law_names","_law_kinds"] (spTe K))
 (DBt:Def K mg "_law_bent_test" (top 49) ["_law_d","_law_test_here"] fBt fdBt) (GBt:FnOk P w K mg base CX0 9 fBt fdBt ["_law_d","_law_test_here"] (spBt K 5))
 (DTo:Def K mg "_law_test_ok" (top 48) ["_law_test_here"] fTo fdTo) (GTo:FnOk P w K mg base CX0 12 fTo fdTo ["_law_test_here"] (spTo K))
 (DN:Def K mg "_law_is_name" (top 37) ["_law_text"] fN fdN) (GN:FnOk P w K mg base CX0 1 fN fdN ["_law_text"] spIsNm)
 (DOd:Def K mg "_law_odd_name" (top 39) ["_law_d","_law_text"] fOd fdOd) (GOd:FnOk P w K mg base CX0 3 fOd fdOd ["_law_d","_law_text"] spOdd)
 (DFr:Def K mg "_law_far" (top 33) ["_law_d"] fFr fdFr) (GFr:FnOk P w K mg base CX0 2 fFr fdFr ["_law_d"] spFar)
 (MkT:Mk K cL fI) (kbT:KBinds K fdI NTI ["most"] gT gVT) (GTI:FnOk P w K mg base (CX1 P w) 12 fI fdI NTI (spTI K cL cT cK cZ))
 (MTb:MD K cL "table" "Tally.table" (tM 2) ["self"] fTb fdTb) (GTb:FnOk P w K mg base CX0 1 fTb fdTb ["self"] (spTb cL))
 (MTd:MD K cL "dropped" "Tally.dropped" (tM 3) ["self"] fTd fdTd) (GTd:FnOk P w K mg base CX0 1 fTd fdTd ["self"] (spTd cL))
 (MTl:MD K cL "__len__" "Tally.__len__" (tM 5) ["self"] fTl fdTl) (GTl:FnOk P w K mg base CX0 1 fTl fdTl ["self"] (spTd cL))
 (GA:FnOkS P w K mg base CX0 15 fA fdA ["_law_ask_here"] (spAsk P w K mg base 14 cV cS cM)) (hA:mg "_law_ask" = some (.ref fA)) (kA:keepIn K (.ref fA)=true) (bA:Binds K fdA ["_law_ask_here"] []) :
 FnOk P w K mg base CX0 16 f (PySem.W.fnOf "law" "law" (defArgs (top 50)) (defBody (top 50)) (defScope (top 50)) .none kV doc pm an (.ref c) ct) ["_law_script"] (spLaw K Tt ps):=by
 have GB:FnOk P w K mg base CX0 1 fB fdB ["_law_script"] (spBegin K):=ok_begin DB.F T
 have GP:FnOk P w K mg base CX0 1 fP fdP ["_law_d","_law_many"] spPick:=ok_pick DP.F T
 have GO:FnOk P w K mg base CX0 2 fO fdO ["_law_d","_law_things"] (spOf K):=ok_of DO.F T DP
 have GWs:FnOk P w K mg base CX0 4 fWs fdWs ["_law_d","_law_many"] (spWords K):=ok_words DWs.F T DP DO DW
 have GS:FnOk P w K mg base CX0 5 fS fdS ["_law_found","_law_due"] (spS K 5):=ok_same DS T 5
 refine fn_of lk hcd scLaw (fun vs H Q E h=>?_) (fun A outer s H vs Q E hr h=>?_)
 ·obtain ⟨a,ns,rfl,_⟩:=h
  rfl
 ·obtain ⟨sa,ns,rfl,hS,hlen,hTb,k⟩:=h
  have hr1:Room 1 _:=hr.mono (by decide)
  have hr4:Room 4 _:=hr.mono (by decide)
  have hr5:Room 5 _:=hr.mono (by decide)
  have hr10:Room 10 _:=hr.mono (by decide)
  have hr12:Room 12 _:=hr.mono (by decide)
  have hr9:Room 9 _:=hr.mono (by decide)
  have hr2:Room 2 _:=hr.mono (by decide)
  have hr3:Room 3 _:=hr.mono (by decide)
  have CT:CodeTab (cxOf CX0 P w K mg base NLaw "law" (defScope (top 50)) f (.ref c) A outer s H E) c Tt:=⟨rfl,HT,HB,HG⟩
  have h1:∀ q∈clL s.heap.objs.size,(PyProof.Rows.envOfC "law" (defScope (top 50)) s.heap.objs.size f (.ref c)).cells.lookup q.1=some q.2:=by
   intro q hq
   rcases List.mem_cons.mp hq with rfl|hq
   ·rfl
   ·rcases List.mem_cons.mp hq with rfl|hq
    ·rfl
    ·cases List.mem_singleton.mp hq
     rfl
  have h2:∀ q∈(lScope lamT).names,(q.2=.cell∨q.2=.free)->q.1∈(clL s.heap.objs.size).map (·.1):=by
   have:∀ q∈(lScope lamT).names,(q.2=.cell∨q.2=.free)->q.1∈(["_law_probe","_law_few","_law_cols"]:List Str):=by decide +kernel
   exact this
  have h3:∀ x∈NL,(defScope (top 50)).names.lookup x=some .cell:=by decide +kernel
  refine ⟨_,(pss_cons (ps_set (i:=1) scLaw.nd rfl (Or.inl rfl) (pe_call GB hr1 rfl DB.mg DB.F.kp DB.b .nil pass0 (pa_cons (pv 0) pa_nil)))
 (pss_cons (ps_for PassesOwn.leaving rfl (pi_range1 rfl T.range (pa_cons pe_int pa_nil)) (pg_name (i:=2) scLaw.nd rfl (Or.inl rfl)) (pss_cons (ps_set (i:=3) scLaw.nd rfl (Or.inl rfl) (pe_call GWs hr4 rfl DWs.mg DWs.F.kp DWs.b .nil pass0 (pa_cons (pv 1) (pa_cons pe_int pa_nil))))
 (pss_cons (ps_set (i:=4) scLaw.nd rfl (Or.inr rfl) (pe_call GTe hr10 rfl DTe.mg DTe.F.kp DTe.b .nil pass0 (pa_cons (pv 1) (pa_cons (pv 3) (pa_cons (pv 3) pa_nil)))))
 (pss_cons (ps_if (pt_cmpR op_eq (pe_call GP hr1 rfl DP.mg DP.F.kp DP.b .nil pass0 (pa_cons (pv 1) (pa_cons pe_int pa_nil))) pe_int (nomark _)) (pss_one (ps_set (i:=4) scLaw.nd rfl (Or.inr rfl) (pe_call GBt hr9 rfl DBt.mg DBt.F.kp DBt.b .nil pass0 (pa_cons (pv 1) (pa_cons (pv 4) pa_nil))))) pss_nil)
 (pss_cons (ps_set (i:=5) scLaw.nd rfl (Or.inr rfl) (pe_slice sl_list (pv 3) po_none (po_some (pe_call GP hr1 rfl DP.mg DP.F.kp DP.b .nil pass0 (pa_cons (pv 1) (pa_cons pe_int pa_nil))))))
 (pss_cons (ps_if (PW.pt (pw_and (pt_cmpR (op_neL hr.units) (pv 5) (pe_lst pa_nil) (nomark _)) (pw_and1 (pt_cmpR op_eq (pe_call GP hr1 rfl DP.mg DP.F.kp DP.b .nil pass0 (pa_cons (pv 1) (pa_cons pe_int pa_nil))) pe_int (nomark _))))) (pss_cons (ps_set (i:=6) scLaw.nd rfl (Or.inl rfl) (pe_call GP hr1 rfl DP.mg DP.F.kp DP.b .nil pass0 (pa_cons (pv 1) (pa_cons (pe_callB call_len_seq (by rfl) T.len bt_len (pa_cons (pv 5) pa_nil)) pa_nil))))
 (pss_one (ps_asg (pe_call GO hr2 rfl DO.mg DO.F.kp DO.b .nil pass0 (pa_cons (pv 1) (pa_cons (pe_lst (pa_cons (pe_call GOd hr3 rfl DOd.mg DOd.F.kp DOd.b .nil pass0 (pa_cons (pv 1) (pa_cons (pe_ix ix_list (pv 5) (pv 6) (fun _ _=>rfl)) pa_nil))) (pa_cons (pe_ix ix_list (pv 5) pe_int (fun _ _=>rfl)) (pa_cons (pe_ix ix_list (pv 5) (pe_un un_neg pe_int) (fun _ _=>rfl)) pa_nil)))) pa_nil))) (pg_sub (pv 5) (pv 6) set_list)))) pss_nil)
 (pss_cons (ps_set (i:=7) scLaw.nd rfl (Or.inr rfl) (pe_call GO hr2 rfl DO.mg DO.F.kp DO.b .nil pass0 (pa_cons (pv 1) (pa_cons (pe_lst (pa_cons pe_int (pa_cons pe_int (pa_cons pe_int (pa_cons pe_int (pa_cons pe_int (pa_cons (pe_call GFr hr2 rfl DFr.mg DFr.F.kp DFr.b .nil pass0 (pa_cons (pv 1) pa_nil)) (pa_cons (pe_op op_add pe_int (pe_call GP hr1 rfl DP.mg DP.F.kp DP.b .nil pass0 (pa_cons (pv 1) (pa_cons pe_int pa_nil)))) pa_nil)))))))) pa_nil))))
 (pss_cons (ps_set (i:=8) scLaw.nd rfl (Or.inl rfl) pe_str)
 (pss_cons (ps_if (pt_not (pt_val (pe_call GTo hr12 rfl DTo.mg DTo.F.kp DTo.b .nil pass0 (pa_cons (pv 4) pa_nil)))) (pss_one (ps_set (i:=8) scLaw.nd rfl (Or.inl rfl) pe_str)) (pss_one (ps_if (PW.pt (pw_or (pt_cmpR op_gt (pe_callB call_len_seq (by rfl) T.len bt_len (pa_cons (pv 5) pa_nil)) pe_int (nomark _)) (pw_or1 (pt_cmpR op_lt (pe_callB call_lenT (by rfl) T.len bt_len (pa_cons (pe_callTy (call_setT rfl) (by rfl) hset bt_set (pa_cons (pv 5) pa_nil)) pa_nil)) (pe_callB call_len_seq (by rfl) T.len bt_len (pa_cons (pv 5) pa_nil)) (nomark _))))) (pss_one (ps_set (i:=8) scLaw.nd rfl (Or.inl rfl) pe_str)) (pss_one (ps_if (pt_not (pt_val (pe_callB (call_allB rfl) (by rfl) T.all bt_all (pa_cons (pe_comp (g:=gName 0) (own:=["_law_key"]) (js:=[]) (N':=["_law_key"]) (CompScope.of (osc:=defScope (top 50)) (N:=NLaw) rfl rfl ⟨rfl,by decide +kernel,by decide +kernel,by decide +kernel,rfl,by decide +kernel⟩) rfl (pi_list (pv 5)) (fun _ _ _ _ _=>(pg_name (i:=0) (show List.Nodup (["_law_key"]:List Str) by decide +kernel) rfl (Or.inl rfl) (Or.inr rfl))) (fun _ _ _ _ _=>pifs_nil) (fun _ _ _ _ _=>pe_call GN hr1 rfl DN.mg DN.F.kp DN.b .nil pass0 (pa_cons (pv 0) pa_nil))) pa_nil)))) (pss_one (ps_set (i:=8) scLaw.nd rfl (Or.inl rfl) pe_str)) (pss_one (ps_if (pt_not (pt_chain op_le op_le pe_int (pv 7) pe_int)) (pss_one (ps_set (i:=8) scLaw.nd rfl (Or.inl rfl) pe_str)) pss_nil)))))))
 (pss_cons (ps_asg (pe_callS (E:=E0) (r:=rAskT K cL qL (clL s.heap.objs.size) ((mg "__name__").getD .none)) GA hr (by rfl) hA kA bA pass0 (fun pins σ H s' vs Q I h=>ask_T h1 (fun _=>rfl) h2 h3 rfl rfl rfl T Z MkT kbT GTI BT I h) (pa_cons (pe_lam CT rfl rfl) pa_nil)) (pg_two rfl (pgs_cons (pg_name (i:=9) scLaw.nd rfl (Or.inl rfl)) (pgs_cons (pg_name (i:=10) scLaw.nd rfl (Or.inl rfl)) pgs_nil))))
 (pss_cons (ps_if (pt_not (pt_val (pe_call GS hr5 rfl DS.mg DS.F.kp DS.b .nil pass0 (pa_cons (pv 9) (pa_cons (pv 8) pa_nil))))) (pss_one ps_never) pss_nil)
 (pss_one (ps_if (pt_cmpR op_eq (pv 8) pe_str (nomark _)) (pss_cons (ps_set (i:=11) scLaw.nd rfl (Or.inl rfl) (pe_lst (pa_cons (pe_meth0 (E:=E0) (pv 10) Z.c MTb.M GTb hr1 MTb.b .nil pass0) (pa_cons (pe_meth0 (E:=E0) (pv 10) Z.c MTd.M GTd hr1 MTd.b .nil pass0) (pa_cons (pe_callB (call_lenI (E:=E0) ⟨MTl.M.at_,MTl.M.fn,GTl,MTl.b,pass0⟩ hr2) (by rfl) T.len bt_len (pa_cons (pv 10) pa_nil)) (pa_cons (pe_callTy (call_boolI (E:=E0) ⟨MTl.M.at_,MTl.M.fn,GTl,MTl.b,pass0⟩ Z.nb hr4) (by rfl) T.bool bt_bool (pa_cons (pv 10) pa_nil)) pa_nil))))))
 (pss_one (ps_if (pt_not (pt_val (pe_call GS hr5 rfl DS.mg DS.F.kp DS.b .nil pass0 (pa_cons (pv 11) (pa_cons (pe_lst (pa_cons (pe_lst pa_nil) (pa_cons pe_int (pa_cons pe_int (pa_cons pe_bl pa_nil))))) pa_nil))))) (pss_one ps_never) pss_nil))) pss_nil)))))))))))))
 (pss_one (ps_ret pe_bl)))),?_⟩
  refine ⟨_,rfl,sa,ns,rfl,hS,hlen,fun p dc H0 D0 s0 _=>?_⟩
  have tb0:TabI H0 Tt qL [lPos lamT]:=⟨ps,s0 _ _ hTb,tri,fun lp m=>.inl (cn lp m)⟩
  refine ⟨4,rfl,by decide,by decide,for_range (n:=4) (fun i σ H'=>(∃ u2 u3 u4 u5 u6 u7 u8 u9 u10 u11,σ=[some (.ref sa),some (.ref p),u2,u3,u4,u5,u6,u7,u8,u9,u10,u11])/\Dr H' p dc/\TabI H' Tt qL [lPos lamT]) ⟨⟨none,none,none,none,none,none,none,none,none,none,rfl⟩,D0,tb0⟩ ?_ ?_⟩
  ·rintro i σ H1 hi ⟨⟨u2,u3,u4,u5,u6,u7,u8,u9,u10,u11,rfl⟩,D1,tb1⟩
   refine ⟨_,rfl,p,dc,_,rfl,D1,by decide,by decide,fun nq ys H2 hnq hnn hyl nm nd D2 b2=>?_⟩
   have yne:ys≠[]:=by rintro rfl;simp at hyl
   refine ⟨_,rfl,_,rfl,_,rfl,p,dc,nq,nq,ys,ys,rfl,D2,SqL.of hnq,SqL.of hnq,yne,yne,by omega,by omega,nm,nm,fun x0 d0 H3 rx0 tx0 tt0 D3 b3=>?_⟩
   have hn3:H3 nq=some (.lst (ys.map V.str)):=b3 _ _ hnq (D2.ne hnq (by intro _ z;cases z))
   have tb3:=(tb1.but D1 b2).but D2 b3
   clear b2 b3 D2 tb1 D1 hnq hnn tt0
   try dsimp only [gName]
   refine seq_by (fun σ' H'=>∃ (x:V) (d:PyData),σ'=[some (.ref sa),some (.ref p),some (.int (0+i)),some (.ref nq),some x,u5,u6,u7,u8,u9,u10,u11]/\Rep K H' x d/\Bd 6 d/\H' nq=some (.lst (ys.map V.str))/\Dr H' p dc/\TabI H' Tt qL [lPos lamT]) ?nx1 fun N hN=>?st1
   case st1=>
    refine ⟨_,rfl,p,dc,_,rfl,D3,by decide,by decide,fun q H5 q0 q1 D5 b5=>⟨rfl,_,rfl,?_⟩⟩
    have rx5:=D3.rep b5 rx0
    have tb5:=tb3.but D3 b5
    have hn5:H5 nq=some (.lst (ys.map V.str)):=b5 _ _ hn3 (D3.ne hn3 (by intro _ z;cases z))
    refine ite2 (fun _=>?_) (fun _=>?_)
    ·refine ⟨_,rfl,_,rfl,p,dc,x0,d0,rfl,D5,rx5,tx0,by decide,fun y e H6 ry be D6 b6=>?_⟩
     exact hN _ _ ⟨y,e,rfl,ry,be,b6 _ _ hn5 (D5.ne hn5 (by intro _ z;cases z)),D6,tb5.but D5 b6⟩
    ·exact hN _ _ ⟨x0,d0,rfl,rx5,⟨tx0.td,by have:=tx0.dp;omega⟩,hn5,D5,tb5⟩
   rintro σ' H5 ⟨x,d,rfl,rx5,bd,hn5,D5,tb5⟩
   clear tb3 D3 rx0 tx0 hn3
   have td:=bd.td
   refine ⟨_,rfl,_,rfl,p,dc,_,rfl,D5,by decide,by decide,fun r H6 r0 r1 D6 b6=>?_⟩
   obtain ⟨kc,rfl⟩:=Int.eq_ofNat_of_zero_le r0
   have hn6:H6 nq=some (.lst (ys.map V.str)):=b6 _ _ hn5 (D5.ne hn5 (by intro _ z;cases z))
   refine ⟨_,rfl,nq,_,rfl,SqL.of hn6,fun q2 hq2=>?_⟩
   rw [cut_pre (by rw [List.length_map];omega),← List.map_take]
   have n2p:q2≠p:=(D6.neN hq2).symm
   have n2d:q2≠dc:=by
    obtain ⟨ws,e⟩:=D6.cell
    exact (ne_of_none e hq2).symm
   have s7:Same H6 (upd H6 q2 (.lst ((ys.take kc).map V.str))):=Same.new hq2
   have h7:(upd H6 q2 (.lst ((ys.take kc).map V.str))) q2=some (.lst ((ys.take kc).map V.str)):=upd_same
   generalize upd H6 q2 (.lst ((ys.take kc).map V.str))=H7 at s7 h7 ⊢
   have cl:(ys.take kc).length≤5:=by rw [List.length_take];omega
   have cx:∀ y∈ys.take kc,Asc y/\y.length≤8:=fun y hy=>⟨asc_nm (nm y (List.mem_of_mem_take hy)),(nm y (List.mem_of_mem_take hy)).hi⟩
   have D7:=D6.mono s7
   have tb7:=(tb5.but D5 b6).same s7
   have rx7:=(D5.rep b6 rx5).same s7
   generalize ys.take kc=cs0 at h7 cl cx ⊢
   clear s7 hq2 D6 tb5 b6 rx5 hn5 D5 hn6
   try dsimp only [gName]
   refine seq_by (fun σ' H'=>∃ (cs:List Str) (v6:Option V),σ'=[some (.ref sa),some (.ref p),some (.int (0+i)),some (.ref nq),some x,some (.ref q2),v6,u7,u8,u9,u10,u11]/\Rep K H' x d/\H' q2=some (.lst (cs.map V.str))/\cs.length≤5/\(∀ y∈cs,Asc y/\y.length≤40)/\Dr H' p dc/\TabI H' Tt qL [lPos lamT]) ?nx2 fun N hN=>?st2
   case st2=>
    refine ⟨_,rfl,(show 0≤sizeLine by decide),fun l hl=>?_⟩
    have s8:Same H7 (upd H7 l (.lst [])):=Same.new hl
    have hl8:(upd H7 l (.lst [])) l=some (.lst []):=upd_same
    generalize upd H7 l (.lst [])=H8 at s8 hl8 ⊢
    have h8:=s8 _ _ h7
    have D8:=D7.mono s8
    have tb8:=tb7.same s8
    have rx8:=rx7.same s8
    have ctx0:∀ y∈cs0,Asc y/\y.length≤40:=fun y hy=>⟨(cx y hy).1,by have:=(cx y hy).2;omega⟩
    refine ⟨cs0.map PyData.str,[],.lst (SqL.of h8) (strs_rep cs0),.lst (SqL.of hl8) .nil,strs_deps cs0,_,rfl,?_⟩
    by_cases hc:cs0=[]
    ·have e:(!pdEqs (cs0.map PyData.str) [])=false:=by subst hc;rfl
     rw [e]
     exact ifF rfl (ifF rfl (hN _ _ ⟨cs0,u6,rfl,rx8,h8,cl,ctx0,D8,tb8⟩))
    ·have e:(!pdEqs (cs0.map PyData.str) [])=true:=by
      obtain ⟨y,r,rfl⟩:=List.exists_cons_of_ne_nil hc
      rfl
     rw [e]
     have c1:0<cs0.length:=List.length_pos_iff.mpr hc
     refine ifT rfl ⟨_,rfl,p,dc,_,rfl,D8,by decide,by decide,fun w9 H9 w0 w1 D9 b9=>⟨rfl,_,rfl,?_⟩⟩
     have h9:H9 q2=some (.lst (cs0.map V.str)):=b9 _ _ h8 n2p
     have rx9:=D8.rep b9 rx8
     have tb9:=tb8.but D8 b9
     refine ite2 (fun _=>?_) (fun _=>?_)
     ·refine ⟨_,rfl,_,rfl,q2,_,rfl,.inl (SqL.of h9),p,dc,_,rfl,D9,by rw [List.length_map];omega,by rw [List.length_map];omega,fun a H10 a0 a1 D10 b10=>?_⟩
      obtain ⟨ka,rfl⟩:=Int.eq_ofNat_of_zero_le a0
      have ka':ka<cs0.length:=by rw [List.length_map] at a1;omega
      have h10:H10 q2=some (.lst (cs0.map V.str)):=b10 _ _ h9 n2p
      have rx10:=D9.rep b10 rx9
      have tb10:=tb9.but D9 b10
      have mk:=cx _ (List.getElem_mem ka')
      refine ⟨_,rfl,_,rfl,_,rfl,_,rfl,q2,_,_,.str cs0[ka],rfl,rfl,SqL.of h10,atI_nat (by rw [List.getElem?_map,List.getElem?_eq_getElem ka'];rfl),p,dc,cs0[ka],rfl,D10,by have:=mk.2;omega,mk.1,fun y1 H11 ay ly D11 b11=>?_⟩
      have h11:H11 q2=some (.lst (cs0.map V.str)):=b11 _ _ h10 n2p
      have rx11:=D10.rep b11 rx10
      have tb11:=tb10.but D10 b11
      obtain ⟨r,z,er⟩:∃ r z,cs0=r++[z]:=⟨cs0.dropLast,cs0.getLast hc,(List.dropLast_concat_getLast hc).symm⟩
      have mz:z∈cs0:=by rw [er];simp
      refine ⟨_,rfl,q2,_,_,.str cs0[0],rfl,rfl,SqL.of h11,atI_nat (j:=0) (by rw [List.getElem?_map,List.getElem?_eq_getElem c1];rfl),?_⟩
      refine ⟨_,rfl,_,rfl,q2,_,_,.str z,rfl,rfl,SqL.of h11,(by rw [er,List.map_append];exact atI_last _ _),(show 3≤sizeLine by decide),fun l2 hl2=>?_⟩
      have s12:Same H11 (upd H11 l2 (.lst [.str y1,.str cs0[0],.str z])):=Same.new hl2
      have hl12:(upd H11 l2 (.lst [.str y1,.str cs0[0],.str z])) l2=some (.lst [.str y1,.str cs0[0],.str z]):=upd_same
      generalize upd H11 l2 (.lst [.str y1,.str cs0[0],.str z])=H12 at s12 hl12 ⊢
      refine ⟨p,dc,l2,_,rfl,D11.mono s12,SqL.of hl12,by simp,by simp,fun v H13 hv D13 b13=>?_⟩
      have h13:H13 q2=some (.lst (cs0.map V.str)):=b13 _ _ (s12 _ _ h11) n2p
      have rx13:=(D11.mono s12).rep b13 (rx11.same s12)
      have tb13:=(tb11.same s12).but (D11.mono s12) b13
      obtain ⟨y2,rfl,ay2,ly2⟩:∃ y2:Str,v=.str y2/\Asc y2/\y2.length≤40:=by
       simp only [List.mem_cons,List.not_mem_nil,or_false] at hv
       rcases hv with rfl|rfl|rfl
       ·exact ⟨_,rfl,ay,by have:=mk.2;omega⟩
       ·exact ⟨_,rfl,(ctx0 _ (List.getElem_mem c1)).1,(ctx0 _ (List.getElem_mem c1)).2⟩
       ·exact ⟨_,rfl,(ctx0 _ mz).1,(ctx0 _ mz).2⟩
      refine ⟨_,rfl,_,rfl,q2,_,_,ka,rfl,rfl,h13,ixN_nat (by rw [List.length_map];exact ka'),hN _ _ ⟨cs0.set ka y2,_,rfl,rep_upd h13 td rx13,?_,by rw [List.length_set];exact cl,fun y hy=>?_,D13.put n2p n2d,tb13.put h13⟩⟩
      ·rw [upd_same,List.map_set]
      ·rcases List.mem_or_eq_of_mem_set hy with hy|rfl
       ·exact ctx0 y hy
       ·exact ⟨ay2,ly2⟩
     ·exact hN _ _ ⟨cs0,u6,rfl,rx9,h9,cl,ctx0,D9,tb9⟩
   rintro σ' H8 ⟨cs,v6,rfl,rx8,h8,csl,ctx,D8,tb8⟩
   clear h7 cl cx D7 tb7 rx7
   refine ⟨_,rfl,_,rfl,p,dc,rfl,D8,fun z H9 z0 z1 D9 b9=>?_⟩
   refine ⟨_,rfl,p,dc,_,rfl,D9,by decide,by decide,fun g H10 g0 g1 D10 b10=>⟨_,_,rfl,rfl,(show 7≤sizeLine by decide),fun l hl=>?_⟩⟩
   have s11:Same H10 (upd H10 l (.lst [.int 16,.int 1,.int 64,.int 0,.int 65,.int z,.int (1+g)])):=Same.new hl
   have hl11:(upd H10 l (.lst [.int 16,.int 1,.int 64,.int 0,.int 65,.int z,.int (1+g)])) l=some (.lst [.int 16,.int 1,.int 64,.int 0,.int 65,.int z,.int (1+g)]):=upd_same
   generalize upd H10 l (.lst [.int 16,.int 1,.int 64,.int 0,.int 65,.int z,.int (1+g)])=H11 at s11 hl11 ⊢
   refine ⟨p,dc,l,_,rfl,D10.mono s11,SqL.of hl11,by simp,by simp,fun v H12 hv D12 b12=>?_⟩
   obtain ⟨m,rfl,tm⟩:∃ m:Int,v=.int m/\TxI m:=by
    simp only [List.mem_cons,List.not_mem_nil,or_false] at hv
    simp only [Far] at z0 z1
    rcases hv with rfl|rfl|rfl|rfl|rfl|rfl|rfl
    all_goals exact ⟨_,rfl,by unfold TxI;simp only [Far];omega⟩
   have h12:H12 q2=some (.lst (cs.map V.str)):=b12 _ _ (s11 _ _ (b10 _ _ (b9 _ _ h8 n2p) n2p)) n2p
   have rx12:=(D10.mono s11).rep b12 ((D9.rep b10 (D8.rep b9 rx8)).same s11)
   have tb12:=(((tb8.but D8 b9).but D9 b10).same s11).but (D10.mono s11) b12
   clear hv hl11 s11 b12 b10 b9 D10 D9 D8 tb8 rx8 h8 hl
   try dsimp only [gName]
   refine seq_by (fun σ' H'=>σ'=[some (.ref sa),some (.ref p),some (.int (0+i)),some (.ref nq),some x,some (.ref q2),v6,some (.int m),some (.str ""),u9,u10,u11]/\H'=H12) ?nx3 fun N hN=>hN _ _ ⟨rfl,rfl⟩
   rintro σ' H' ⟨rfl,rfl⟩
   refine seq_by (fun σ' H'=>∃ due:Str,due=wordN (dueN d cs m)/\σ'=[some (.ref sa),some (.ref p),some (.int (0+i)),some (.ref nq),some x,some (.ref q2),v6,some (.int m),some (.str due),u9,u10,u11]/\Rep K H' x d/\H' q2=some (.lst (cs.map V.str))/\Dr H' p dc/\TabI H' Tt qL [lPos lamT]) ?nx4 fun N hN=>?st4
   case st4=>
    refine ⟨_,rfl,x,d,rfl,rx12,td,by have:=bd.dp;omega,fun H13 s13=>⟨_,rfl,?_⟩⟩
    have h13:=s13 _ _ h12
    have D13:=D12.mono s13
    have tb13:=tb12.same s13
    have rx13:=rx12.same s13
    have ml:(cs.map V.str).length=cs.length:=List.length_map ..
    cases ht:testB d with
    | false=>
      have e:wordN (dueN d cs m) = "badtest":=by unfold dueN;rw [if_neg (by rw [ht];decide)];rfl
      exact ifT rfl (hN _ _ ⟨_,e.symm,rfl,rx13,h13,D13,tb13⟩)
    | true=>
      have bk:keysB cs=false->wordN (dueN d cs m) = "badkeys":=fun kb=>by unfold dueN;rw [if_pos ht,if_neg (by rw [kb];decide)];rfl
      refine ifF rfl ?_
      refine ⟨_,rfl,q2,_,rfl,.inl (SqL.of h13),_,_,rfl,rfl,_,rfl,?_⟩
      by_cases c5:4<cs.length
      ·refine ifT (by simp;omega) (ifT rfl (hN _ _ ⟨_,(bk ?_).symm,rfl,rx13,h13,D13,tb13⟩))
       unfold keysB
       rw [decide_eq_false (by omega)];rfl
      ·refine ifF (by simp;omega) ?_
       refine ⟨_,rfl,q2,cs,rfl,SqL.of h13,by omega,fun a n ha hn=>⟨a,n,rfl,upd_same,?_⟩⟩
       have s14:Same H13 (upd H13 a (setT P w a n)):=Same.new ha
       have h14:=s14 _ _ h13
       have D14:=D13.mono s14
       have tb14:=tb13.same s14
       have rx14:=rx13.same s14
       refine ⟨_,rfl,q2,_,rfl,.inl (SqL.of h14),_,_,rfl,rfl,_,rfl,?_⟩
       rcases hn with ⟨nd',en⟩|⟨nd',lt⟩
       ·refine ifF (by simp;omega) ?_
        refine ⟨_,rfl,q2,rfl,⟨_,SqL.of h14⟩,?_⟩
        refine comp_list (K:=K) (a:=q2) (xs:=cs.map V.str) (fun i zs σ' H'=>(∃ v,σ'=[v])/\Same (upd H13 a (setT P w a n)) H'/\zs=(cs.take i).map fun y=>V.bl (nameB y)) (Nat.le_trans (show (cs.map V.str).length≤5 by omega) (by decide)) ⟨⟨none,rfl⟩,Same.refl _,rfl⟩ (fun i zs σ' H' _ ⟨_,s2,_⟩=>s2.seq (SqL.of h14)) ?_ ?_
        ·rintro i1 y zs σ' H15 hy hzs ⟨⟨v,rfl⟩,s2,rfl⟩ N' hN'
         rw [List.getElem?_map] at hy
         obtain ⟨x1,hx,rfl⟩:∃ x1,cs[i1]?=some x1/\V.str x1=y:=by
          cases hj:cs[i1]? with
          |none=>rw [hj] at hy;cases hy
          |some x1=>rw [hj] at hy;exact ⟨x1,rfl,by simpa using hy⟩
         have cx1:=ctx x1 (List.mem_of_getElem? hx)
         refine ⟨_,rfl,x1,rfl,by have:=cx1.2;omega,cx1.1,fun H16 s16=>?_⟩
         exact hN' _ _ _ (by rw [List.length_append,hzs];rfl) ⟨⟨_,rfl⟩,s2.trans s16,by rw [List.take_add_one,hx];simp⟩
        ·rintro zs σ' H15 hzs ⟨⟨v,rfl⟩,s2,rfl⟩
         rw [List.take_of_length_le (by omega)]
         refine ⟨Nat.le_trans (show (cs.map fun y=>V.bl (nameB y)).length≤5 by rw [List.length_map];exact csl) (by decide),fun q hq=>?_⟩
         have s16:Same (upd H13 a (setT P w a n)) (upd H15 q (.lst (cs.map fun y=>V.bl (nameB y)))):=s2.trans (Same.new hq)
         have hq16:(upd H15 q (.lst (cs.map fun y=>V.bl (nameB y)))) q=some (.lst (cs.map fun y=>V.bl (nameB y))):=upd_same
         generalize upd H15 q (.lst (cs.map fun y=>V.bl (nameB y)))=H16 at s16 hq16 ⊢
         have h16:=s16 _ _ h14
         have D16:=D14.mono s16
         have tb16:=tb14.same s16
         have rx16:=rx14.same s16
         refine ⟨q,cs.map nameB,rfl,by rw [List.map_map];exact SqL.of hq16,_,rfl,?_⟩
         have ea:(cs.map nameB).all id=cs.all nameB:=by rw [List.all_map];rfl
         cases ha2:cs.all nameB with
         | false=>
           refine ifT (by dsimp only;rw [ea,ha2];rfl) (hN _ _ ⟨_,(bk ?_).symm,rfl,rx16,h16,D16,tb16⟩)
           unfold keysB
           rw [ha2];simp
         | true=>
           have kb:keysB cs=true:=by
            unfold keysB
            rw [decide_eq_true (by omega),ha2,decide_eq_true nd'];rfl
           refine ifF (by dsimp only;rw [ea,ha2];rfl) ?_
           refine EvT.iff (EvT.not (EvT.test (EvE.chain EvE.con (EvE.var rfl) EvE.con EvR.i0 EvR.i0))) (ite2 (fun h=>?_) (fun h=>?_))
           ·have h3:¬ (1≤m/\m≤64):=fun z=>by simp [z.1,z.2] at h
            have e:wordN (dueN d cs m) = "badsize":=by unfold dueN;rw [if_pos ht,if_pos kb,if_neg h3];rfl
            exact hN _ _ ⟨_,e.symm,rfl,rx16,h16,D16,tb16⟩
           ·have h3:1≤m/\m≤64:=by simpa using h
            have e:wordN (dueN d cs m) = "":=by unfold dueN;rw [if_pos ht,if_pos kb,if_pos h3];rfl
            exact hN _ _ ⟨_,e.symm,rfl,rx16,h16,D16,tb16⟩
       ·refine ifT (by simp;omega) (hN _ _ ⟨_,(bk ?_).symm,rfl,rx14,h14,D14,tb14⟩)
        unfold keysB
        rw [decide_eq_false nd'];simp
   rintro σ' H15 ⟨due,edue,rfl,rx15,h15,D15,tb15⟩
   clear h12 D12 tb12 rx12
   refine ⟨tb15.tab (List.mem_cons_self ..),fun c' H16 lm f' ctv hf'=>?_⟩
   have k16:=Lam.keeps (o:=lamO f' (kla_obj "<lambda>" qL (lParams lamT) (lBody lamT) (lScope lamT) (clL s.heap.objs.size) ((mg "__name__").getD .none) c' ctv)) lm hf'
   have rx16:=Rep.keeps k16 rx15
   have D16:=Dr.keeps D15 k16
   have h16:=k16 _ _ h15 (by intro _ z;cases z)
   have tb16:=(tb15.lam lm).same (Same.new (o:=lamO f' (kla_obj "<lambda>" qL (lParams lamT) (lBody lamT) (lScope lamT) (clL s.heap.objs.size) ((mg "__name__").getD .none) c' ctv)) hf')
   refine ⟨f',c',ctv,x,d,q2,cs,m,rfl,upd_same,Same.new hf' _ _ lm.code,rfl,rfl,rfl,rx16,td,SqL.of h16,by omega,ctx,tm,fun h0 o H17 ta s17 l hl=>?_,fun n h0 H17 s17 l hl=>?_⟩
   ·have ed:due = "":=by rw [edue,h0];rfl
    subst ed
    have s18:Same H17 (upd H17 l (.lst [.str "",.ref o])):=Same.new hl
    have hl18:(upd H17 l (.lst [.str "",.ref o])) l=some (.lst [.str "",.ref o]):=upd_same
    generalize upd H17 l (.lst [.str "",.ref o])=H18 at s18 hl18 ⊢
    obtain ⟨dx,tx,ta1,tc,tm',e1,e2⟩:=ta
    refine ⟨l,_,_,rfl,SqL.of hl18,_,_,rfl,_,_,rfl,rfl,?_⟩
    refine ⟨_,rfl,_,rfl,.str "",.str "",.str "",rfl,.str _,.str _,by simp [pdDep],by simp [pdMax],fun H19 s19=>⟨true,rfl,ifF rfl ?_⟩⟩
    refine ⟨_,rfl,rfl,_,rfl,ifT rfl ?_⟩
    have S19:=s18.trans s19
    have e19:=S19 _ _ e1
    have c19:=S19 _ _ e2
    refine ⟨_,rfl,o,dx,_,rfl,e19,rfl,o,rfl,⟨dx,tx,ta1,tc,tm',e19,c19⟩,fun l1 H20 s20 hl20=>?_⟩
    have e20:=s20 _ _ e19
    have c20:=s20 _ _ c19
    have T20:TaAt cL H20 o:=⟨dx,tx,ta1,tc,tm',e20,c20⟩
    refine ⟨_,rfl,o,dx,_,rfl,e20,rfl,o,rfl,T20,?_⟩
    refine ⟨_,rfl,o,dx,_,rfl,e20,o,rfl,T20,0,rfl,by decide,?_⟩
    refine ⟨_,rfl,o,dx,_,rfl,e20,o,rfl,T20,0,rfl,by decide,?_⟩
    refine ⟨(show 4≤sizeLine by decide),fun l2 hl2=>?_⟩
    have s21:Same H20 (upd H20 l2 (.lst [.ref l1,.int 0,.int 0,.bl false])):=Same.new hl2
    have hl21:(upd H20 l2 (.lst [.ref l1,.int 0,.int 0,.bl false])) l2=some (.lst [.ref l1,.int 0,.int 0,.bl false]):=upd_same
    refine ⟨_,rfl,(show 0≤sizeLine by decide),fun l3 hl3=>⟨(show 4≤sizeLine by decide),fun l4 hl4=>?_⟩⟩
    have s22:=Same.new (o:=.lst []) hl3
    have s23:=Same.new (o:=.lst [.ref l3,.int 0,.int 0,.bl false]) hl4
    refine ⟨.ref l2,.ref l4,.list [.list [],.int 0,.int 0,.bool false],rfl,.lst (SqL.of (s23 _ _ (s22 _ _ hl21))) (.cons (.lst (SqL.of (s23 _ _ (s22 _ _ (s21 _ _ hl20)))) .nil) (.cons (.int _) (.cons (.int _) (.cons (.bl _) .nil)))),.lst (SqL.of upd_same) (.cons (.lst (SqL.of (s23 _ _ upd_same)) .nil) (.cons (.int _) (.cons (.int _) (.cons (.bl _) .nil)))),by simp [pdDep,pdDeps],by simp [pdMax,pdMaxs],fun H24 s24=>⟨true,rfl,ifF rfl ?_⟩⟩
    have S24:=s17.trans (S19.trans (s20.trans (s21.trans (Same.trans s22 (Same.trans s23 s24)))))
    exact ⟨⟨_,_,_,_,_,_,_,_,_,_,rfl⟩,D16.mono S24,tb16.same S24⟩
   ·have ed:due=wdT n:=by rw [edue,h0];rfl
    subst ed
    have s18:Same H17 (upd H17 l (.lst [.str (wdT n),.non])):=Same.new hl
    have hl18:(upd H17 l (.lst [.str (wdT n),.non])) l=some (.lst [.str (wdT n),.non]):=upd_same
    generalize upd H17 l (.lst [.str (wdT n),.non])=H18 at s18 hl18 ⊢
    refine ⟨l,_,_,rfl,SqL.of hl18,_,_,rfl,_,_,rfl,rfl,?_⟩
    refine ⟨_,rfl,_,rfl,.str (wdT n),.str (wdT n),.str (wdT n),rfl,.str _,.str _,by simp [pdDep],by simp [pdMax],fun H19 s19=>⟨true,rfl,ifF rfl ?_⟩⟩
    refine ⟨_,rfl,rfl,_,rfl,ifF ?_ ?_⟩
    ·match n with
     |0=>decide +kernel
     |1=>decide +kernel
     |_+2=>exact (by decide +kernel:decide (V.str "badsize" = V.str "")=false)
    ·have S19:=s17.trans (s18.trans s19)
     exact ⟨⟨_,_,_,_,_,_,_,_,_,_,rfl⟩,D16.mono S19,tb16.same S19⟩
  ·rintro σ H1 _
   exact k _
end
def xbm (B:String):List Value:=[.type B,.type "Exception",.type "BaseException",.type "object"]
theorem rl_ve (self:Value):refuseLoop self "__setattr__" (xbm "ValueError")=pure ():=by kernel_rfl
theorem rl_le (self:Value):refuseLoop self "__setattr__" (xbm "LookupError")=pure ():=by kernel_rfl
def xcd (K:Frag) (C:Addr) (rs:List Addr) (bm:List Value):Bool:=match clsIn K C with
 |some cd=>cd.hasDict && (cd.mro == rs.map Value.ref++bm)
 |none=>false
theorem xcls_of {K:Frag} {C:Addr} {B n:String} {rs:List Addr} (h1:makesX K C B n=true) (h2:findIn K (.ref C) "__setattr__" = some (some (.builtin "object.__setattr__"))) (h3:xcd K C rs (xbm B)=true) (h4:keepIn K (.ref C)=true) (h5:typeIn K (.ref C)=some (.type "type"))
 (hr:∀ self,refuseLoop self "__setattr__" (xbm B)=pure ()):XCls K C B n:=by
 refine ⟨h1,h2,?_,h4,h5⟩
 unfold xcd at h3
 split at h3
 ·rename_i cd hc
  rw [Bool.and_eq_true,beq_iff_eq] at h3
  refine ⟨cd,rs,xbm B,hc,h3.1,h3.2,by simp [xbm],hr,?_⟩
  unfold xbm
  simp
 ·cases h3
theorem all_mk {l:PySem.W.OpenLaw} {w:World} {K:PySem.W.Frag} {h:Heap} {mg:Str->Option Value} {fa fLa Tt cc fB fP fO fW fWs fS fFr fIs fOd fNu fLe fTr fPa fDe fTe fLo fSo fTo fBt fA fNm fIw fNb fLf fCp fIt fNt fNk tW tS qY fYI fTb fTd fTl qS qV qM fSE TS qT fiT TdT qK fiK TdK qZ fiZ TdZ:Addr} (X:K.In h) (G:h.Ns mainGlobals mg) (hfa:mg "law" = some (.ref fa))
 {odLa anLa odcc odB anB odP anP odO anO odW anW odWs anWs odS anS odFr anFr odIs anIs odOd anOd odNu anNu odLe anLe odTr anTr odPa anPa odDe anDe odTe anTe odLo anLo odSo anSo odTo anTo odBt anBt odA anA odNm anNm odIw anIw odNb anNb odLf anLf odCp anCp odIt anIt odNt anNt odNk anNk odYI anYI odTb anTb odTd anTd odTl anTl odSE anSE odTS odiT aniT odTT odiK aniK odTK odiZ aniZ odTZ:Option Addr} {slLa slcc slB slP slO slW slWs slS slFr slIs slOd slNu slLe slTr slPa slDe slTe slLo slSo slTo slBt slA slNm slIw slNb slLf slCp slIt slNt slNk slYI slTb slTd slTl slSE slTS sliT slTT sliK slTK sliZ slTZ:Array (Option Value)} {t_MOST_LETTERS t_LIMIT t_MOST_PARTS t_MOST_DEEP t_MOST_NAMED t_KEYS_LIMIT nTS nTT nTK nTZ:Nat} {ocLa kVLa dcLa pmLa ctLa w0 w1 w2 w3 w4 w5 w6 w7 w8 w9 w10 w12 w13 w14 w15 w16 w17 w18 occ ocB kVB dcB pmB cdB ctB ocP kVP dcP pmP cdP ctP ocO kVO dcO pmO cdO ctO ocW kVW dcW pmW cdW ctW ocWs kVWs dcWs pmWs cdWs ctWs ocS kVS dcS pmS cdS ctS ocFr kVFr dcFr pmFr cdFr ctFr ocIs kVIs dcIs pmIs cdIs ctIs ocOd kVOd dcOd pmOd cdOd ctOd ocNu kVNu dcNu pmNu cdNu ctNu ocLe kVLe dcLe pmLe cdLe ctLe ocTr kVTr dcTr pmTr cdTr ctTr ocPa kVPa dcPa pmPa cdPa ctPa ocDe kVDe dcDe pmDe cdDe ctDe ocTe kVTe dcTe pmTe cdTe ctTe ocLo kVLo dcLo pmLo cdLo ctLo ocSo kVSo dcSo pmSo cdSo ctSo ocTo kVTo dcTo pmTo cdTo ctTo ocBt kVBt dcBt pmBt cdBt ctBt ocA kVA dcA pmA cdA ctA ocNm kVNm dcNm pmNm cdNm ctNm ocIw kVIw dcIw pmIw cdIw ctIw ocNb kVNb dcNb pmNb cdNb ctNb ocLf kVLf dcLf pmLf cdLf ctLf ocCp kVCp dcCp pmCp cdCp ctCp ocIt kVIt dcIt pmIt cdIt ctIt ocNt kVNt dcNt pmNt cdNt ctNt ocNk kVNk dcNk pmNk cdNk ctNk ocYI kVYI dcYI pmYI cdYI ctYI ocTb kVTb dcTb pmTb cdTb ctTb ocTd kVTd dcTd pmTd cdTd ctTd ocTl kVTl dcTl pmTl cdTl ctTl ocSE kVSE dcSE pmSE cdSE ctSE dS1 dS2 ocTS ociT kViT dciT pmiT cdiT ctiT diT ocTT ociK kViK dciK pmiK cdiK ctiK diK ocTK ociZ kViZ dciZ pmiZ cdiZ ctiZ diZ ocTZ:Value}
 (aLa:PySem.W.nsIn K mainGlobals "law" = some (some (.ref fLa)))
 (lLa:K.lookup fLa=some ⟨ocLa,odLa,.func (PySem.W.fnOf "law" "law" (defArgs (top 50)) (defBody (top 50)) (defScope (top 50)) .none kVLa dcLa pmLa anLa (.ref cc) ctLa),slLa⟩)
 (lcc:K.lookup cc=some ⟨occ,odcc,.fields #[w0,w1,w2,w3,w4,w5,w6,w7,w8,w9,w10,.ref Tt,w12,w13,w14,w15,w16,w17,w18],slcc⟩)
 (lTt:K.lookup Tt=none)
 (tb:L2.tabIn K cc=some Tt)
 (cLa:PySem.W.codeIn K (.ref cc) "law" = true)
 (aB:PySem.W.nsIn K mainGlobals "_law_begin" = some (some (.ref fB)))
 (lB:K.lookup fB=some ⟨ocB,odB,.func (PySem.W.fnOf "_law_begin" "_law_begin" (defArgs (top 30)) (defBody (top 30)) (defScope (top 30)) .none kVB dcB pmB anB cdB ctB),slB⟩)
 (cB:PySem.W.codeIn K cdB "_law_begin" = true)
 (kB:PySem.W.keepIn K (.ref fB)=true)
 (aP:PySem.W.nsIn K mainGlobals "_law_pick" = some (some (.ref fP)))
 (lP:K.lookup fP=some ⟨ocP,odP,.func (PySem.W.fnOf "_law_pick" "_law_pick" (defArgs (top 31)) (defBody (top 31)) (defScope (top 31)) .none kVP dcP pmP anP cdP ctP),slP⟩)
 (cP:PySem.W.codeIn K cdP "_law_pick" = true)
 (kP:PySem.W.keepIn K (.ref fP)=true)
 (aO:PySem.W.nsIn K mainGlobals "_law_of" = some (some (.ref fO)))
 (lO:K.lookup fO=some ⟨ocO,odO,.func (PySem.W.fnOf "_law_of" "_law_of" (defArgs (top 32)) (defBody (top 32)) (defScope (top 32)) .none kVO dcO pmO anO cdO ctO),slO⟩)
 (cO:PySem.W.codeIn K cdO "_law_of" = true)
 (kO:PySem.W.keepIn K (.ref fO)=true)
 (aW:PySem.W.nsIn K mainGlobals "_law_word" = some (some (.ref fW)))
 (lW:K.lookup fW=some ⟨ocW,odW,.func (PySem.W.fnOf "_law_word" "_law_word" (defArgs (top 35)) (defBody (top 35)) (defScope (top 35)) .none kVW dcW pmW anW cdW ctW),slW⟩)
 (cW:PySem.W.codeIn K cdW "_law_word" = true)
 (kW:PySem.W.keepIn K (.ref fW)=true)
 (aWs:PySem.W.nsIn K mainGlobals "_law_words" = some (some (.ref fWs)))
 (lWs:K.lookup fWs=some ⟨ocWs,odWs,.func (PySem.W.fnOf "_law_words" "_law_words" (defArgs (top 36)) (defBody (top 36)) (defScope (top 36)) .none kVWs dcWs pmWs anWs cdWs ctWs),slWs⟩)
 (cWs:PySem.W.codeIn K cdWs "_law_words" = true)
 (kWs:PySem.W.keepIn K (.ref fWs)=true)
 (aS:PySem.W.nsIn K mainGlobals "_law_same" = some (some (.ref fS)))
 (lS:K.lookup fS=some ⟨ocS,odS,.func (PySem.W.fnOf "_law_same" "_law_same" (defArgs (top 34)) (defBody (top 34)) (defScope (top 34)) .none kVS dcS pmS anS cdS ctS),slS⟩)
 (cS:PySem.W.codeIn K cdS "_law_same" = true)
 (kS:PySem.W.keepIn K (.ref fS)=true)
 (aFr:PySem.W.nsIn K mainGlobals "_law_far" = some (some (.ref fFr)))
 (lFr:K.lookup fFr=some ⟨ocFr,odFr,.func (PySem.W.fnOf "_law_far" "_law_far" (defArgs (top 33)) (defBody (top 33)) (defScope (top 33)) .none kVFr dcFr pmFr anFr cdFr ctFr),slFr⟩)
 (cFr:PySem.W.codeIn K cdFr "_law_far" = true)
 (kFr:PySem.W.keepIn K (.ref fFr)=true)
 (aIs:PySem.W.nsIn K mainGlobals "_law_is_name" = some (some (.ref fIs)))
 (lIs:K.lookup fIs=some ⟨ocIs,odIs,.func (PySem.W.fnOf "_law_is_name" "_law_is_name" (defArgs (top 37)) (defBody (top 37)) (defScope (top 37)) .none kVIs dcIs pmIs anIs cdIs ctIs),slIs⟩)
 (cIs:PySem.W.codeIn K cdIs "_law_is_name" = true)
 (kIs:PySem.W.keepIn K (.ref fIs)=true)
 (aOd:PySem.W.nsIn K mainGlobals "_law_odd_name" = some (some (.ref fOd)))
 (lOd:K.lookup fOd=some ⟨ocOd,odOd,.func (PySem.W.fnOf "_law_odd_name" "_law_odd_name" (defArgs (top 39)) (defBody (top 39)) (defScope (top 39)) .none kVOd dcOd pmOd anOd cdOd ctOd),slOd⟩)
 (cOd:PySem.W.codeIn K cdOd "_law_odd_name" = true)
 (kOd:PySem.W.keepIn K (.ref fOd)=true)
 (aNu:PySem.W.nsIn K mainGlobals "_law_number" = some (some (.ref fNu)))
 (lNu:K.lookup fNu=some ⟨ocNu,odNu,.func (PySem.W.fnOf "_law_number" "_law_number" (defArgs (top 40)) (defBody (top 40)) (defScope (top 40)) .none kVNu dcNu pmNu anNu cdNu ctNu),slNu⟩)
 (cNu:PySem.W.codeIn K cdNu "_law_number" = true)
 (kNu:PySem.W.keepIn K (.ref fNu)=true)
 (aLe:PySem.W.nsIn K mainGlobals "_law_leaf" = some (some (.ref fLe)))
 (lLe:K.lookup fLe=some ⟨ocLe,odLe,.func (PySem.W.fnOf "_law_leaf" "_law_leaf" (defArgs (top 41)) (defBody (top 41)) (defScope (top 41)) .none kVLe dcLe pmLe anLe cdLe ctLe),slLe⟩)
 (cLe:PySem.W.codeIn K cdLe "_law_leaf" = true)
 (kLe:PySem.W.keepIn K (.ref fLe)=true)
 (aTr:PySem.W.nsIn K mainGlobals "_law_tree" = some (some (.ref fTr)))
 (lTr:K.lookup fTr=some ⟨ocTr,odTr,.func (PySem.W.fnOf "_law_tree" "_law_tree" (defArgs (top 42)) (defBody (top 42)) (defScope (top 42)) .none kVTr dcTr pmTr anTr cdTr ctTr),slTr⟩)
 (cTr:PySem.W.codeIn K cdTr "_law_tree" = true)
 (kTr:PySem.W.keepIn K (.ref fTr)=true)
 (aPa:PySem.W.nsIn K mainGlobals "_law_parts" = some (some (.ref fPa)))
 (lPa:K.lookup fPa=some ⟨ocPa,odPa,.func (PySem.W.fnOf "_law_parts" "_law_parts" (defArgs (top 43)) (defBody (top 43)) (defScope (top 43)) .none kVPa dcPa pmPa anPa cdPa ctPa),slPa⟩)
 (cPa:PySem.W.codeIn K cdPa "_law_parts" = true)
 (kPa:PySem.W.keepIn K (.ref fPa)=true)
 (aDe:PySem.W.nsIn K mainGlobals "_law_deep" = some (some (.ref fDe)))
 (lDe:K.lookup fDe=some ⟨ocDe,odDe,.func (PySem.W.fnOf "_law_deep" "_law_deep" (defArgs (top 44)) (defBody (top 44)) (defScope (top 44)) .none kVDe dcDe pmDe anDe cdDe ctDe),slDe⟩)
 (cDe:PySem.W.codeIn K cdDe "_law_deep" = true)
 (kDe:PySem.W.keepIn K (.ref fDe)=true)
 (aTe:PySem.W.nsIn K mainGlobals "_law_test" = some (some (.ref fTe)))
 (lTe:K.lookup fTe=some ⟨ocTe,odTe,.func (PySem.W.fnOf "_law_test" "_law_test" (defArgs (top 45)) (defBody (top 45)) (defScope (top 45)) .none kVTe dcTe pmTe anTe cdTe ctTe),slTe⟩)
 (cTe:PySem.W.codeIn K cdTe "_law_test" = true)
 (kTe:PySem.W.keepIn K (.ref fTe)=true)
 (aLo:PySem.W.nsIn K mainGlobals "_law_leaf_ok" = some (some (.ref fLo)))
 (lLo:K.lookup fLo=some ⟨ocLo,odLo,.func (PySem.W.fnOf "_law_leaf_ok" "_law_leaf_ok" (defArgs (top 46)) (defBody (top 46)) (defScope (top 46)) .none kVLo dcLo pmLo anLo cdLo ctLo),slLo⟩)
 (cLo:PySem.W.codeIn K cdLo "_law_leaf_ok" = true)
 (kLo:PySem.W.keepIn K (.ref fLo)=true)
 (aSo:PySem.W.nsIn K mainGlobals "_law_shape_ok" = some (some (.ref fSo)))
 (lSo:K.lookup fSo=some ⟨ocSo,odSo,.func (PySem.W.fnOf "_law_shape_ok" "_law_shape_ok" (defArgs (top 47)) (defBody (top 47)) (defScope (top 47)) .none kVSo dcSo pmSo anSo cdSo ctSo),slSo⟩)
 (cSo:PySem.W.codeIn K cdSo "_law_shape_ok" = true)
 (kSo:PySem.W.keepIn K (.ref fSo)=true)
 (aTo:PySem.W.nsIn K mainGlobals "_law_test_ok" = some (some (.ref fTo)))
 (lTo:K.lookup fTo=some ⟨ocTo,odTo,.func (PySem.W.fnOf "_law_test_ok" "_law_test_ok" (defArgs (top 48)) (defBody (top 48)) (defScope (top 48)) .none kVTo dcTo pmTo anTo cdTo ctTo),slTo⟩)
 (cTo:PySem.W.codeIn K cdTo "_law_test_ok" = true)
 (kTo:PySem.W.keepIn K (.ref fTo)=true)
 (aBt:PySem.W.nsIn K mainGlobals "_law_bent_test" = some (some (.ref fBt)))
 (lBt:K.lookup fBt=some ⟨ocBt,odBt,.func (PySem.W.fnOf "_law_bent_test" "_law_bent_test" (defArgs (top 49)) (defBody (top 49)) (defScope (top 49)) .none kVBt dcBt pmBt anBt cdBt ctBt),slBt⟩)
 (cBt:PySem.W.codeIn K cdBt "_law_bent_test" = true)
 (kBt:PySem.W.keepIn K (.ref fBt)=true)
 (aA:PySem.W.nsIn K mainGlobals "_law_ask" = some (some (.ref fA)))
 (lA:K.lookup fA=some ⟨ocA,odA,.func (PySem.W.fnOf "_law_ask" "_law_ask" (defArgs (top 38)) (defBody (top 38)) (defScope (top 38)) .none kVA dcA pmA anA cdA ctA),slA⟩)
 (cA:PySem.W.codeIn K cdA "_law_ask" = true)
 (kA:PySem.W.keepIn K (.ref fA)=true)
 (aNm:PySem.W.nsIn K mainGlobals "is_name" = some (some (.ref fNm)))
 (lNm:K.lookup fNm=some ⟨ocNm,odNm,.func (PySem.W.fnOf "is_name" "is_name" (defArgs (top 11)) (defBody (top 11)) (defScope (top 11)) .none kVNm dcNm pmNm anNm cdNm ctNm),slNm⟩)
 (cNm:PySem.W.codeIn K cdNm "is_name" = true)
 (kNm:PySem.W.keepIn K (.ref fNm)=true)
 (aIw:PySem.W.nsIn K mainGlobals "is_word" = some (some (.ref fIw)))
 (lIw:K.lookup fIw=some ⟨ocIw,odIw,.func (PySem.W.fnOf "is_word" "is_word" (defArgs (top 17)) (defBody (top 17)) (defScope (top 17)) .none kVIw dcIw pmIw anIw cdIw ctIw),slIw⟩)
 (cIw:PySem.W.codeIn K cdIw "is_word" = true)
 (kIw:PySem.W.keepIn K (.ref fIw)=true)
 (aNb:PySem.W.nsIn K mainGlobals "is_number" = some (some (.ref fNb)))
 (lNb:K.lookup fNb=some ⟨ocNb,odNb,.func (PySem.W.fnOf "is_number" "is_number" (defArgs (top 18)) (defBody (top 18)) (defScope (top 18)) .none kVNb dcNb pmNb anNb cdNb ctNb),slNb⟩)
 (cNb:PySem.W.codeIn K cdNb "is_number" = true)
 (kNb:PySem.W.keepIn K (.ref fNb)=true)
 (aLf:PySem.W.nsIn K mainGlobals "is_leaf" = some (some (.ref fLf)))
 (lLf:K.lookup fLf=some ⟨ocLf,odLf,.func (PySem.W.fnOf "is_leaf" "is_leaf" (defArgs (top 19)) (defBody (top 19)) (defScope (top 19)) .none kVLf dcLf pmLf anLf cdLf ctLf),slLf⟩)
 (cLf:PySem.W.codeIn K cdLf "is_leaf" = true)
 (kLf:PySem.W.keepIn K (.ref fLf)=true)
 (aCp:PySem.W.nsIn K mainGlobals "count_parts" = some (some (.ref fCp)))
 (lCp:K.lookup fCp=some ⟨ocCp,odCp,.func (PySem.W.fnOf "count_parts" "count_parts" (defArgs (top 20)) (defBody (top 20)) (defScope (top 20)) .none kVCp dcCp pmCp anCp cdCp ctCp),slCp⟩)
 (cCp:PySem.W.codeIn K cdCp "count_parts" = true)
 (kCp:PySem.W.keepIn K (.ref fCp)=true)
 (aIt:PySem.W.nsIn K mainGlobals "is_test" = some (some (.ref fIt)))
 (lIt:K.lookup fIt=some ⟨ocIt,odIt,.func (PySem.W.fnOf "is_test" "is_test" (defArgs (top 21)) (defBody (top 21)) (defScope (top 21)) .none kVIt dcIt pmIt anIt cdIt ctIt),slIt⟩)
 (cIt:PySem.W.codeIn K cdIt "is_test" = true)
 (kIt:PySem.W.keepIn K (.ref fIt)=true)
 (aNt:PySem.W.nsIn K mainGlobals "need_test" = some (some (.ref fNt)))
 (lNt:K.lookup fNt=some ⟨ocNt,odNt,.func (PySem.W.fnOf "need_test" "need_test" (defArgs (top 22)) (defBody (top 22)) (defScope (top 22)) .none kVNt dcNt pmNt anNt cdNt ctNt),slNt⟩)
 (cNt:PySem.W.codeIn K cdNt "need_test" = true)
 (kNt:PySem.W.keepIn K (.ref fNt)=true)
 (aNk:PySem.W.nsIn K mainGlobals "need_keys" = some (some (.ref fNk)))
 (lNk:K.lookup fNk=some ⟨ocNk,odNk,.func (PySem.W.fnOf "need_keys" "need_keys" (defArgs (top 27)) (defBody (top 27)) (defScope (top 27)) .none kVNk dcNk pmNk anNk cdNk ctNk),slNk⟩)
 (cNk:PySem.W.codeIn K cdNk "need_keys" = true)
 (kNk:PySem.W.keepIn K (.ref fNk)=true)
 (z_len:PySem.W.nsIn K mainGlobals "len" = some none)
 (z_range:PySem.W.nsIn K mainGlobals "range" = some none)
 (z_list:PySem.W.nsIn K mainGlobals "list" = some none)
 (z_tuple:PySem.W.nsIn K mainGlobals "tuple" = some none)
 (z_str:PySem.W.nsIn K mainGlobals "str" = some none)
 (z_bool:PySem.W.nsIn K mainGlobals "bool" = some none)
 (z_int:PySem.W.nsIn K mainGlobals "int" = some none)
 (z_min:PySem.W.nsIn K mainGlobals "min" = some none)
 (z_repr:PySem.W.nsIn K mainGlobals "repr" = some none)
 (z_all:PySem.W.nsIn K mainGlobals "all" = some none)
 (z_any:PySem.W.nsIn K mainGlobals "any" = some none)
 (z_isinstance:PySem.W.nsIn K mainGlobals "isinstance" = some none)
 (z_sum:PySem.W.nsIn K mainGlobals "sum" = some none)
 (z_max:PySem.W.nsIn K mainGlobals "max" = some none)
 (z_ValueError:PySem.W.nsIn K mainGlobals "ValueError" = some none)
 (z_set:PySem.W.nsIn K mainGlobals "set" = some none)
 (z_sorted:PySem.W.nsIn K mainGlobals "sorted" = some none)
 (z_enumerate:PySem.W.nsIn K mainGlobals "enumerate" = some none)
 (i_MOST_LETTERS:PySem.W.nsIn K mainGlobals "MOST_LETTERS" = some (some (.int 8 t_MOST_LETTERS)))
 (i_LIMIT:PySem.W.nsIn K mainGlobals "LIMIT" = some (some (.int 999999 t_LIMIT)))
 (i_MOST_PARTS:PySem.W.nsIn K mainGlobals "MOST_PARTS" = some (some (.int 15 t_MOST_PARTS)))
 (i_MOST_DEEP:PySem.W.nsIn K mainGlobals "MOST_DEEP" = some (some (.int 5 t_MOST_DEEP)))
 (i_MOST_NAMED:PySem.W.nsIn K mainGlobals "MOST_NAMED" = some (some (.int 4 t_MOST_NAMED)))
 (i_KEYS_LIMIT:PySem.W.nsIn K mainGlobals "KEYS_LIMIT" = some (some (.int 64 t_KEYS_LIMIT)))
 (a_tW:PySem.W.nsIn K mainGlobals "WITHIN" = some (some (.ref tW)))
 (ktW:PyProof.Rows.KTD.tabLook PyProof.Rows.KTD.flatLooks (fun b=>K.lookup b) tW dW=true)
 (a_tS:PySem.W.nsIn K mainGlobals "SIGN_OF" = some (some (.ref tS)))
 (ktS:PyProof.Rows.KTD.tabLook PyProof.Rows.KTD.flatLooks (fun b=>K.lookup b) tS dS=true)
 (a_qY:PySem.W.nsIn K mainGlobals "Tally" = some (some (.ref qY)))
 (pgY:PySem.W.plainGet K qY Str.empty=true)
 (hdY:PySem.W.hasDictIn K qY=true)
 (poY:PySem.W.plainOver K qY=true)
 (saY:PySem.W.findIn K (.ref qY) "__setattr__" = some (some (.builtin "object.__setattr__")))
 (mkY:PySem.W.makesIn K qY=true)
 (kcY:PySem.W.keepIn K (.ref qY)=true)
 (nY_test:PySem.W.findIn K (.ref qY) "test" = some none)
 (nY_named:PySem.W.findIn K (.ref qY) "named" = some none)
 (nY_most:PySem.W.findIn K (.ref qY) "most" = some none)
 (nY_counted:PySem.W.findIn K (.ref qY) "counted" = some none)
 (nY_beyond:PySem.W.findIn K (.ref qY) "beyond" = some none)
 (nY___bool__:PySem.W.findIn K (.ref qY) "__bool__" = some none)
 (aYI:PySem.W.findIn K (.ref qY) "__init__" = some (some (.ref fYI)))
 (lYI:K.lookup fYI=some ⟨ocYI,odYI,.func (PySem.W.fnOf "__init__" "Tally.__init__" (defArgs (tM 0)) (defBody (tM 0)) (defScope (tM 0)) .none kVYI dcYI pmYI anYI cdYI ctYI),slYI⟩)
 (cYI:PySem.W.codeIn K cdYI "Tally.__init__" = true)
 (kYI:PySem.W.keepIn K (.ref fYI)=true)
 (iYI:PySem.W.isFn K (.ref fYI)=true)
 (hkY:∀ (S:Setting) (x a b c:Value),PySem.W.peek K S (bindArgs (PySem.W.fnOf "__init__" "Tally.__init__" (defArgs (tM 0)) (defBody (tM 0)) (defScope (tM 0)) .none kVYI dcYI pmYI anYI cdYI ctYI) ⟨[x,a,b],[("most",c)]⟩)=some ([("self",x),("test",a),("keys",b),("most",c)]:List (Str×Value)))
 (aTb:PySem.W.findIn K (.ref qY) "table" = some (some (.ref fTb)))
 (iTb:PySem.W.isFn K (.ref fTb)=true)
 (lTb:K.lookup fTb=some ⟨ocTb,odTb,.func (PySem.W.fnOf "table" "Tally.table" (defArgs (tM 2)) (defBody (tM 2)) (defScope (tM 2)) .none kVTb dcTb pmTb anTb cdTb ctTb),slTb⟩)
 (cTb:PySem.W.codeIn K cdTb "Tally.table" = true)
 (kTb:PySem.W.keepIn K (.ref fTb)=true)
 (aTd:PySem.W.findIn K (.ref qY) "dropped" = some (some (.ref fTd)))
 (iTd:PySem.W.isFn K (.ref fTd)=true)
 (lTd:K.lookup fTd=some ⟨ocTd,odTd,.func (PySem.W.fnOf "dropped" "Tally.dropped" (defArgs (tM 3)) (defBody (tM 3)) (defScope (tM 3)) .none kVTd dcTd pmTd anTd cdTd ctTd),slTd⟩)
 (cTd:PySem.W.codeIn K cdTd "Tally.dropped" = true)
 (kTd:PySem.W.keepIn K (.ref fTd)=true)
 (aTl:PySem.W.findIn K (.ref qY) "__len__" = some (some (.ref fTl)))
 (iTl:PySem.W.isFn K (.ref fTl)=true)
 (lTl:K.lookup fTl=some ⟨ocTl,odTl,.func (PySem.W.fnOf "__len__" "Tally.__len__" (defArgs (tM 5)) (defBody (tM 5)) (defScope (tM 5)) .none kVTl dcTl pmTl anTl cdTl ctTl),slTl⟩)
 (cTl:PySem.W.codeIn K cdTl "Tally.__len__" = true)
 (kTl:PySem.W.keepIn K (.ref fTl)=true)
 (a_qS:PySem.W.nsIn K mainGlobals "ScribeError" = some (some (.ref qS)))
 (a_qV:PySem.W.nsIn K mainGlobals "BadValue" = some (some (.ref qV)))
 (a_qM:PySem.W.nsIn K mainGlobals "Missing" = some (some (.ref qM)))
 (x1S:makesX K qS "ValueError" "ValueError.__new__" = true)
 (x2S:PySem.W.findIn K (.ref qS) "__setattr__" = some (some (.builtin "object.__setattr__")))
 (x3S:xcd K qS [qS] (xbm "ValueError")=true)
 (x4S:PySem.W.keepIn K (.ref qS)=true)
 (x5S:PySem.W.typeIn K (.ref qS)=some (.type "type"))
 (x1V:makesX K qV "ValueError" "ValueError.__new__" = true)
 (x2V:PySem.W.findIn K (.ref qV) "__setattr__" = some (some (.builtin "object.__setattr__")))
 (x3V:xcd K qV [qV,qS] (xbm "ValueError")=true)
 (x4V:PySem.W.keepIn K (.ref qV)=true)
 (x5V:PySem.W.typeIn K (.ref qV)=some (.type "type"))
 (x1M:makesX K qM "LookupError" "LookupError.__new__" = true)
 (x2M:PySem.W.findIn K (.ref qM) "__setattr__" = some (some (.builtin "object.__setattr__")))
 (x3M:xcd K qM [qM] (xbm "LookupError")=true)
 (x4M:PySem.W.keepIn K (.ref qM)=true)
 (x5M:PySem.W.typeIn K (.ref qM)=some (.type "type"))
 (aSE:PySem.W.findIn K (.ref qS) "__init__" = some (some (.ref fSE)))
 (lSE:K.lookup fSE=some ⟨ocSE,odSE,.func (PySem.W.fnOf "__init__" "ScribeError.__init__" (defArgs sSE) (defBody sSE) (defScope sSE) (.ref TS) kVSE dcSE pmSE anSE cdSE ctSE),slSE⟩)
 (cSE:PySem.W.codeIn K cdSE "ScribeError.__init__" = true)
 (kSE:PySem.W.keepIn K (.ref fSE)=true)
 (lTS:K.lookup TS=some ⟨ocTS,odTS,.seq #[dS1,dS2] nTS,slTS⟩)
 (fc:PySem.W.findCls K (.type "ValueError") (.type "type") "__init__" = some (.val (.builtin "ValueError.__init__")))
 (sg:PySem.W.specialIn K (.ref qS) "__getattribute__" = some (some (.builtin "type.__getattribute__")))
 (rd1:PySem.W.readsIn K qS (.type "type")=true)
 (rd2:PySem.W.findCls K (.ref qS) (.type "type") "__init__" = some (.val (.ref fSE)))
 (a_qT:PySem.W.nsIn K mainGlobals "BadTest" = some (some (.ref qT)))
 (x1T:makesX K qT "ValueError" "ValueError.__new__" = true)
 (x2T:PySem.W.findIn K (.ref qT) "__setattr__" = some (some (.builtin "object.__setattr__")))
 (x3T:xcd K qT [qT,qS] (xbm "ValueError")=true)
 (x4T:PySem.W.keepIn K (.ref qT)=true)
 (x5T:PySem.W.typeIn K (.ref qT)=some (.type "type"))
 (tkT:PySem.W.takerIn K qT "word" = some none)
 (aiT:PySem.W.findIn K (.ref qT) "__init__" = some (some (.ref fiT)))
 (liT:K.lookup fiT=some ⟨ociT,odiT,.func (PySem.W.fnOf "__init__" "BadTest.__init__" (defArgs sBadTest) (defBody sBadTest) (defScope sBadTest) (.ref TdT) kViT dciT pmiT aniT cdiT ctiT),sliT⟩)
 (ciT:PySem.W.codeIn K cdiT "BadTest.__init__" = true)
 (kiT:PySem.W.keepIn K (.ref fiT)=true)
 (biT:PySem.W.findIn K (.ref qT) "__init__" = some (some (.ref fiT)))
 (niT:PySem.W.isFn K (.ref fiT)=true)
 (lTT:K.lookup TdT=some ⟨ocTT,odTT,.seq #[diT] nTT,slTT⟩)
 (mvT:PySem.W.mroIn K qT (.ref qV)=some false)
 (msT:PySem.W.mroIn K qT (.ref qS)=some true)
 (g1T:PySem.W.findIn K (.ref qT) "__getattribute__" = some (some (.builtin "BaseException.__getattribute__")))
 (g2T:PySem.W.findIn K (.ref qT) "__getattr__" = some none)
 (g3T:PySem.W.hasDictIn K qT=true)
 (g4T:PySem.W.findIn K (.ref qT) "word" = some none)
 (g5T:PySem.W.mroIn K qT (.type "BaseException")=some true)
 (a_qK:PySem.W.nsIn K mainGlobals "BadKeys" = some (some (.ref qK)))
 (x1K:makesX K qK "ValueError" "ValueError.__new__" = true)
 (x2K:PySem.W.findIn K (.ref qK) "__setattr__" = some (some (.builtin "object.__setattr__")))
 (x3K:xcd K qK [qK,qS] (xbm "ValueError")=true)
 (x4K:PySem.W.keepIn K (.ref qK)=true)
 (x5K:PySem.W.typeIn K (.ref qK)=some (.type "type"))
 (tkK:PySem.W.takerIn K qK "word" = some none)
 (aiK:PySem.W.findIn K (.ref qK) "__init__" = some (some (.ref fiK)))
 (liK:K.lookup fiK=some ⟨ociK,odiK,.func (PySem.W.fnOf "__init__" "BadKeys.__init__" (defArgs sBadKeys) (defBody sBadKeys) (defScope sBadKeys) (.ref TdK) kViK dciK pmiK aniK cdiK ctiK),sliK⟩)
 (ciK:PySem.W.codeIn K cdiK "BadKeys.__init__" = true)
 (kiK:PySem.W.keepIn K (.ref fiK)=true)
 (biK:PySem.W.findIn K (.ref qK) "__init__" = some (some (.ref fiK)))
 (niK:PySem.W.isFn K (.ref fiK)=true)
 (lTK:K.lookup TdK=some ⟨ocTK,odTK,.seq #[diK] nTK,slTK⟩)
 (mvK:PySem.W.mroIn K qK (.ref qV)=some false)
 (msK:PySem.W.mroIn K qK (.ref qS)=some true)
 (g1K:PySem.W.findIn K (.ref qK) "__getattribute__" = some (some (.builtin "BaseException.__getattribute__")))
 (g2K:PySem.W.findIn K (.ref qK) "__getattr__" = some none)
 (g3K:PySem.W.hasDictIn K qK=true)
 (g4K:PySem.W.findIn K (.ref qK) "word" = some none)
 (g5K:PySem.W.mroIn K qK (.type "BaseException")=some true)
 (a_qZ:PySem.W.nsIn K mainGlobals "BadSize" = some (some (.ref qZ)))
 (x1Z:makesX K qZ "ValueError" "ValueError.__new__" = true)
 (x2Z:PySem.W.findIn K (.ref qZ) "__setattr__" = some (some (.builtin "object.__setattr__")))
 (x3Z:xcd K qZ [qZ,qS] (xbm "ValueError")=true)
 (x4Z:PySem.W.keepIn K (.ref qZ)=true)
 (x5Z:PySem.W.typeIn K (.ref qZ)=some (.type "type"))
 (tkZ:PySem.W.takerIn K qZ "word" = some none)
 (aiZ:PySem.W.findIn K (.ref qZ) "__init__" = some (some (.ref fiZ)))
 (liZ:K.lookup fiZ=some ⟨ociZ,odiZ,.func (PySem.W.fnOf "__init__" "BadSize.__init__" (defArgs sBadSize) (defBody sBadSize) (defScope sBadSize) (.ref TdZ) kViZ dciZ pmiZ aniZ cdiZ ctiZ),sliZ⟩)
 (ciZ:PySem.W.codeIn K cdiZ "BadSize.__init__" = true)
 (kiZ:PySem.W.keepIn K (.ref fiZ)=true)
 (biZ:PySem.W.findIn K (.ref qZ) "__init__" = some (some (.ref fiZ)))
 (niZ:PySem.W.isFn K (.ref fiZ)=true)
 (lTZ:K.lookup TdZ=some ⟨ocTZ,odTZ,.seq #[diZ] nTZ,slTZ⟩)
 (mvZ:PySem.W.mroIn K qZ (.ref qV)=some false)
 (msZ:PySem.W.mroIn K qZ (.ref qS)=some true)
 (g1Z:PySem.W.findIn K (.ref qZ) "__getattribute__" = some (some (.builtin "BaseException.__getattribute__")))
 (g2Z:PySem.W.findIn K (.ref qZ) "__getattr__" = some none)
 (g3Z:PySem.W.hasDictIn K qZ=true)
 (g4Z:PySem.W.findIn K (.ref qZ) "word" = some none)
 (g5Z:PySem.W.mroIn K qZ (.type "BaseException")=some true) :
 ∃ (fd:FuncData) (sp:Sp),(∀ (s:Shared) (u:Value),BindsTo s fd ⟨[u],[]⟩ [("_law_script",u)])/\(∀ T∈[Tt],K.lookup T=none/\∃ c,L2.tabIn K c=some T)/\
  (∀ (H:Hp) (a:Addr) (ns:List Int),ns.length≤63->(∀ T∈[Tt],H T=some (.tbl #[]))->SqL K H a (ns.map V.int)->sp [.ref a] H (fun v _=>v=.bl true) fun _ _ _=>False)/\
  ∀ base:Heap,K.In base->base.Ns mainGlobals mg->(∀ T∈[Tt],base.BuiltinsAt mg T/\mainGlobals≠T)->FnOk l.prog w K mg base CX0 16 fa fd ["_law_script"] sp:=by
 have e:=hfa.symm.trans (PySem.W.mg_of X G aLa)
 cases e
 have T:Txt K mg:=⟨PySem.W.mg_none_of X G z_len,PySem.W.mg_none_of X G z_range,PySem.W.mg_none_of X G z_list,PySem.W.mg_none_of X G z_tuple,PySem.W.mg_none_of X G z_str,PySem.W.mg_none_of X G z_bool,PySem.W.mg_none_of X G z_int,PySem.W.mg_none_of X G z_min,PySem.W.mg_none_of X G z_repr,PySem.W.mg_none_of X G z_all,PySem.W.mg_none_of X G z_any,PySem.W.mg_none_of X G z_isinstance⟩
 have TE:TxtE K mg:=⟨PySem.W.mg_none_of X G z_ValueError,fc⟩
 have FB:=fun_mk (st:=top 30) lB cB kB
 have bB:=FB.binds (ps:=["_law_script"]) fun _ _ _ _ _ _ us hl=>by obtain ⟨_,rfl⟩:=len1 hl;rfl
 have FP:=fun_mk (st:=top 31) lP cP kP
 have bP:=FP.binds (ps:=["_law_d","_law_many"]) fun _ _ _ _ _ _ us hl=>by obtain ⟨_,_,rfl⟩:=len2 hl;rfl
 have FO:=fun_mk (st:=top 32) lO cO kO
 have bO:=FO.binds (ps:=["_law_d","_law_things"]) fun _ _ _ _ _ _ us hl=>by obtain ⟨_,_,rfl⟩:=len2 hl;rfl
 have FW:=fun_mk (st:=top 35) lW cW kW
 have bW:=FW.binds (ps:=["_law_d"]) fun _ _ _ _ _ _ us hl=>by obtain ⟨_,rfl⟩:=len1 hl;rfl
 have FWs:=fun_mk (st:=top 36) lWs cWs kWs
 have bWs:=FWs.binds (ps:=["_law_d","_law_many"]) fun _ _ _ _ _ _ us hl=>by obtain ⟨_,_,rfl⟩:=len2 hl;rfl
 have FS:=fun_mk (st:=top 34) lS cS kS
 have bS:=FS.binds (ps:=["_law_found","_law_due"]) fun _ _ _ _ _ _ us hl=>by obtain ⟨_,_,rfl⟩:=len2 hl;rfl
 have FFr:=fun_mk (st:=top 33) lFr cFr kFr
 have bFr:=FFr.binds (ps:=["_law_d"]) fun _ _ _ _ _ _ us hl=>by obtain ⟨_,rfl⟩:=len1 hl;rfl
 have FIs:=fun_mk (st:=top 37) lIs cIs kIs
 have bIs:=FIs.binds (ps:=["_law_text"]) fun _ _ _ _ _ _ us hl=>by obtain ⟨_,rfl⟩:=len1 hl;rfl
 have FOd:=fun_mk (st:=top 39) lOd cOd kOd
 have bOd:=FOd.binds (ps:=["_law_d","_law_text"]) fun _ _ _ _ _ _ us hl=>by obtain ⟨_,_,rfl⟩:=len2 hl;rfl
 have FNu:=fun_mk (st:=top 40) lNu cNu kNu
 have bNu:=FNu.binds (ps:=["_law_d"]) fun _ _ _ _ _ _ us hl=>by obtain ⟨_,rfl⟩:=len1 hl;rfl
 have FLe:=fun_mk (st:=top 41) lLe cLe kLe
 have bLe:=FLe.binds (ps:=["_law_d","_law_names","_law_kinds"]) fun _ _ _ _ _ _ us hl=>by obtain ⟨_,_,_,rfl⟩:=len3 hl;rfl
 have FTr:=fun_mk (st:=top 42) lTr cTr kTr
 have bTr:=FTr.binds (ps:=["_law_d","_law_deep_here","_law_names","_law_kinds"]) fun _ _ _ _ _ _ us hl=>by obtain ⟨_,_,_,_,rfl⟩:=len4 hl;rfl
 have FPa:=fun_mk (st:=top 43) lPa cPa kPa
 have bPa:=FPa.binds (ps:=["_law_test_here"]) fun _ _ _ _ _ _ us hl=>by obtain ⟨_,rfl⟩:=len1 hl;rfl
 have FDe:=fun_mk (st:=top 44) lDe cDe kDe
 have bDe:=FDe.binds (ps:=["_law_test_here"]) fun _ _ _ _ _ _ us hl=>by obtain ⟨_,rfl⟩:=len1 hl;rfl
 have FTe:=fun_mk (st:=top 45) lTe cTe kTe
 have bTe:=FTe.binds (ps:=["_law_d","_law_names","_law_kinds"]) fun _ _ _ _ _ _ us hl=>by obtain ⟨_,_,_,rfl⟩:=len3 hl;rfl
 have FLo:=fun_mk (st:=top 46) lLo cLo kLo
 have bLo:=FLo.binds (ps:=["_law_test_here"]) fun _ _ _ _ _ _ us hl=>by obtain ⟨_,rfl⟩:=len1 hl;rfl
 have FSo:=fun_mk (st:=top 47) lSo cSo kSo
 have bSo:=FSo.binds (ps:=["_law_test_here"]) fun _ _ _ _ _ _ us hl=>by obtain ⟨_,rfl⟩:=len1 hl;rfl
 have FTo:=fun_mk (st:=top 48) lTo cTo kTo
 have bTo:=FTo.binds (ps:=["_law_test_here"]) fun _ _ _ _ _ _ us hl=>by obtain ⟨_,rfl⟩:=len1 hl;rfl
 have FBt:=fun_mk (st:=top 49) lBt cBt kBt
 have bBt:=FBt.binds (ps:=["_law_d","_law_test_here"]) fun _ _ _ _ _ _ us hl=>by obtain ⟨_,_,rfl⟩:=len2 hl;rfl
 have FA:=fun_mk (st:=top 38) lA cA kA
 have bA:=FA.binds (ps:=["_law_ask_here"]) fun _ _ _ _ _ _ us hl=>by obtain ⟨_,rfl⟩:=len1 hl;rfl
 have FNm:=fun_mk (st:=top 11) lNm cNm kNm
 have bNm:=FNm.binds (ps:=["text"]) fun _ _ _ _ _ _ us hl=>by obtain ⟨_,rfl⟩:=len1 hl;rfl
 have FIw:=fun_mk (st:=top 17) lIw cIw kIw
 have bIw:=FIw.binds (ps:=["thing"]) fun _ _ _ _ _ _ us hl=>by obtain ⟨_,rfl⟩:=len1 hl;rfl
 have FNb:=fun_mk (st:=top 18) lNb cNb kNb
 have bNb:=FNb.binds (ps:=["thing"]) fun _ _ _ _ _ _ us hl=>by obtain ⟨_,rfl⟩:=len1 hl;rfl
 have FLf:=fun_mk (st:=top 19) lLf cLf kLf
 have bLf:=FLf.binds (ps:=["test"]) fun _ _ _ _ _ _ us hl=>by obtain ⟨_,rfl⟩:=len1 hl;rfl
 have FCp:=fun_mk (st:=top 20) lCp cCp kCp
 have bCp:=FCp.binds (ps:=["thing","deep"]) fun _ _ _ _ _ _ us hl=>by obtain ⟨_,_,rfl⟩:=len2 hl;rfl
 have FIt:=fun_mk (st:=top 21) lIt cIt kIt
 have bIt:=FIt.binds (ps:=["test"]) fun _ _ _ _ _ _ us hl=>by obtain ⟨_,rfl⟩:=len1 hl;rfl
 have FNt:=fun_mk (st:=top 22) lNt cNt kNt
 have bNt:=FNt.binds (ps:=["test"]) fun _ _ _ _ _ _ us hl=>by obtain ⟨_,rfl⟩:=len1 hl;rfl
 have FNk:=fun_mk (st:=top 27) lNk cNk kNk
 have bNk:=FNk.binds (ps:=["keys"]) fun _ _ _ _ _ _ us hl=>by obtain ⟨_,rfl⟩:=len1 hl;rfl
 have FSE:FunD K "__init__" "ScribeError.__init__" sSE (.ref TS) fSE _:=⟨⟨_,_,_,_,_,_,_,_,_,rfl,lSE,cSE⟩,kSE⟩
 have bSE:=FSE.binds (ps:=["self","words","word"]) (ds:=[]) lTS rfl fun kV doc pm an cdv ct s us hT hl=>(by rw [List.append_nil] at hl ⊢;obtain ⟨_,_,_,rfl⟩:=len3 hl;exact BindsTo.of_defaults rfl hT rfl rfl rfl)
 have MS:MkOf K mg "ScribeError" qS fSE:=⟨PySem.W.mg_of X G a_qS,sg,⟨_,rd1,rd2⟩,kSE⟩
 have FiT:FunD K "__init__" "BadTest.__init__" sBadTest (.ref TdT) fiT _:=⟨⟨_,_,_,_,_,_,_,_,_,rfl,liT,ciT⟩,kiT⟩
 have bbT:=FiT.binds (ps:=["self","words"]) (ds:=[]) lTT rfl fun kV doc pm an cdv ct s us hT hl=>(by rw [List.append_nil] at hl ⊢;obtain ⟨_,_,rfl⟩:=len2 hl;exact BindsTo.of_defaults rfl hT rfl rfl rfl)
 have ECT:ECls K qT:=⟨xcls_of x1T x2T x3T x4T x5T rl_ve,tkT⟩
 have WCT:WCls K mg "BadTest" qT fiT _:=⟨bbT,PySem.W.mg_of X G a_qT,ECT,biT,niT⟩
 have FiK:FunD K "__init__" "BadKeys.__init__" sBadKeys (.ref TdK) fiK _:=⟨⟨_,_,_,_,_,_,_,_,_,rfl,liK,ciK⟩,kiK⟩
 have bbK:=FiK.binds (ps:=["self","words"]) (ds:=[]) lTK rfl fun kV doc pm an cdv ct s us hT hl=>(by rw [List.append_nil] at hl ⊢;obtain ⟨_,_,rfl⟩:=len2 hl;exact BindsTo.of_defaults rfl hT rfl rfl rfl)
 have ECK:ECls K qK:=⟨xcls_of x1K x2K x3K x4K x5K rl_ve,tkK⟩
 have WCK:WCls K mg "BadKeys" qK fiK _:=⟨bbK,PySem.W.mg_of X G a_qK,ECK,biK,niK⟩
 have FiZ:FunD K "__init__" "BadSize.__init__" sBadSize (.ref TdZ) fiZ _:=⟨⟨_,_,_,_,_,_,_,_,_,rfl,liZ,ciZ⟩,kiZ⟩
 have bbZ:=FiZ.binds (ps:=["self","words"]) (ds:=[]) lTZ rfl fun kV doc pm an cdv ct s us hT hl=>(by rw [List.append_nil] at hl ⊢;obtain ⟨_,_,rfl⟩:=len2 hl;exact BindsTo.of_defaults rfl hT rfl rfl rfl)
 have ECZ:ECls K qZ:=⟨xcls_of x1Z x2Z x3Z x4Z x5Z rl_ve,tkZ⟩
 have WCZ:WCls K mg "BadSize" qZ fiZ _:=⟨bbZ,PySem.W.mg_of X G a_qZ,ECZ,biZ,niZ⟩
 have TA:TxtA K mg qV qS qM:=⟨PySem.W.mg_none_of X G z_str,PySem.W.mg_of X G a_qV,PySem.W.mg_of X G a_qS,PySem.W.mg_of X G a_qM,⟨_,_,xcls_of x1V x2V x3V x4V x5V rl_ve⟩,⟨_,_,xcls_of x1S x2S x3S x4S x5S rl_ve⟩,⟨_,_,xcls_of x1M x2M x3M x4M x5M rl_le⟩⟩
 have DB:Def K mg "_law_begin" (top 30) ["_law_script"] fB _:=⟨FB,PySem.W.mg_of X G aB,bB⟩
 have DP:Def K mg "_law_pick" (top 31) ["_law_d","_law_many"] fP _:=⟨FP,PySem.W.mg_of X G aP,bP⟩
 have DO:Def K mg "_law_of" (top 32) ["_law_d","_law_things"] fO _:=⟨FO,PySem.W.mg_of X G aO,bO⟩
 have DW:Def K mg "_law_word" (top 35) ["_law_d"] fW _:=⟨FW,PySem.W.mg_of X G aW,bW⟩
 have DWs:Def K mg "_law_words" (top 36) ["_law_d","_law_many"] fWs _:=⟨FWs,PySem.W.mg_of X G aWs,bWs⟩
 have DS:Def K mg "_law_same" (top 34) ["_law_found","_law_due"] fS _:=⟨FS,PySem.W.mg_of X G aS,bS⟩
 have DFr:Def K mg "_law_far" (top 33) ["_law_d"] fFr _:=⟨FFr,PySem.W.mg_of X G aFr,bFr⟩
 have DIs:Def K mg "_law_is_name" (top 37) ["_law_text"] fIs _:=⟨FIs,PySem.W.mg_of X G aIs,bIs⟩
 have DOd:Def K mg "_law_odd_name" (top 39) ["_law_d","_law_text"] fOd _:=⟨FOd,PySem.W.mg_of X G aOd,bOd⟩
 have DNu:Def K mg "_law_number" (top 40) ["_law_d"] fNu _:=⟨FNu,PySem.W.mg_of X G aNu,bNu⟩
 have DLe:Def K mg "_law_leaf" (top 41) ["_law_d","_law_names","_law_kinds"] fLe _:=⟨FLe,PySem.W.mg_of X G aLe,bLe⟩
 have DTr:Def K mg "_law_tree" (top 42) ["_law_d","_law_deep_here","_law_names","_law_kinds"] fTr _:=⟨FTr,PySem.W.mg_of X G aTr,bTr⟩
 have DPa:Def K mg "_law_parts" (top 43) ["_law_test_here"] fPa _:=⟨FPa,PySem.W.mg_of X G aPa,bPa⟩
 have DDe:Def K mg "_law_deep" (top 44) ["_law_test_here"] fDe _:=⟨FDe,PySem.W.mg_of X G aDe,bDe⟩
 have DTe:Def K mg "_law_test" (top 45) ["_law_d","_law_names","_law_kinds"] fTe _:=⟨FTe,PySem.W.mg_of X G aTe,bTe⟩
 have DLo:Def K mg "_law_leaf_ok" (top 46) ["_law_test_here"] fLo _:=⟨FLo,PySem.W.mg_of X G aLo,bLo⟩
 have DSo:Def K mg "_law_shape_ok" (top 47) ["_law_test_here"] fSo _:=⟨FSo,PySem.W.mg_of X G aSo,bSo⟩
 have DTo:Def K mg "_law_test_ok" (top 48) ["_law_test_here"] fTo _:=⟨FTo,PySem.W.mg_of X G aTo,bTo⟩
 have DBt:Def K mg "_law_bent_test" (top 49) ["_law_d","_law_test_here"] fBt _:=⟨FBt,PySem.W.mg_of X G aBt,bBt⟩
 have DA:Def K mg "_law_ask" (top 38) ["_law_ask_here"] fA _:=⟨FA,PySem.W.mg_of X G aA,bA⟩
 have DNm:Def K mg "is_name" (top 11) ["text"] fNm _:=⟨FNm,PySem.W.mg_of X G aNm,bNm⟩
 have DIw:Def K mg "is_word" (top 17) ["thing"] fIw _:=⟨FIw,PySem.W.mg_of X G aIw,bIw⟩
 have DNb:Def K mg "is_number" (top 18) ["thing"] fNb _:=⟨FNb,PySem.W.mg_of X G aNb,bNb⟩
 have DLf:Def K mg "is_leaf" (top 19) ["test"] fLf _:=⟨FLf,PySem.W.mg_of X G aLf,bLf⟩
 have DCp:Def K mg "count_parts" (top 20) ["thing","deep"] fCp _:=⟨FCp,PySem.W.mg_of X G aCp,bCp⟩
 have DIt:Def K mg "is_test" (top 21) ["test"] fIt _:=⟨FIt,PySem.W.mg_of X G aIt,bIt⟩
 have DNt:Def K mg "need_test" (top 22) ["test"] fNt _:=⟨FNt,PySem.W.mg_of X G aNt,bNt⟩
 have DNk:Def K mg "need_keys" (top 27) ["keys"] fNk _:=⟨FNk,PySem.W.mg_of X G aNk,bNk⟩
 have FYI:=fun_mk (st:=tM 0) lYI cYI kYI
 have MkY:Mk K qY fYI:=⟨mkY,aYI,iYI,kcY⟩
 have FTb:=fun_mk (st:=tM 2) lTb cTb kTb
 have bTb:=FTb.binds (ps:=["self"]) fun _ _ _ _ _ _ us hl=>by obtain ⟨_,rfl⟩:=len1 hl;rfl
 have MTb:MD K qY "table" "Tally.table" (tM 2) ["self"] fTb _:=⟨⟨aTb,iTb,kTb⟩,FTb,bTb⟩
 have FTd:=fun_mk (st:=tM 3) lTd cTd kTd
 have bTd:=FTd.binds (ps:=["self"]) fun _ _ _ _ _ _ us hl=>by obtain ⟨_,rfl⟩:=len1 hl;rfl
 have MTd:MD K qY "dropped" "Tally.dropped" (tM 3) ["self"] fTd _:=⟨⟨aTd,iTd,kTd⟩,FTd,bTd⟩
 have FTl:=fun_mk (st:=tM 5) lTl cTl kTl
 have bTl:=FTl.binds (ps:=["self"]) fun _ _ _ _ _ _ us hl=>by obtain ⟨_,rfl⟩:=len1 hl;rfl
 have MTl:MD K qY "__len__" "Tally.__len__" (tM 5) ["self"] fTl _:=⟨⟨aTl,iTl,kTl⟩,FTl,bTl⟩
 refine ⟨PySem.W.fnOf "law" "law" (defArgs (top 50)) (defBody (top 50)) (defScope (top 50)) .none kVLa dcLa pmLa anLa (.ref cc) ctLa,spLaw K Tt #[],fun s v=>.of_eq rfl,fun T m=>by cases List.mem_singleton.mp m;exact ⟨lTt,cc,tb⟩,fun H a ns hl hT hS=>⟨a,ns,rfl,hS,hl,hT _ (List.mem_singleton.mpr rfl),fun _=>rfl⟩,fun base kb0' nsb hbt=>?_⟩
 obtain ⟨hbb,hg⟩:=hbt Tt (List.mem_singleton.mpr rfl)
 have TK':TxtK mg:=⟨⟨_,PySem.W.mg_of X G i_MOST_LETTERS⟩,⟨_,PySem.W.mg_of X G i_LIMIT⟩⟩
 have TT:TxtT mg:=⟨⟨_,PySem.W.mg_of X G i_MOST_PARTS⟩,⟨_,PySem.W.mg_of X G i_MOST_DEEP⟩⟩
 have TY:TxtY mg:=⟨⟨_,PySem.W.mg_of X G i_MOST_NAMED⟩,⟨_,PySem.W.mg_of X G i_KEYS_LIMIT⟩,PySem.W.mg_none_of X G z_enumerate⟩
 have TB:Tabs K mg tW tS:=⟨PySem.W.mg_of X G a_tW,PySem.W.mg_of X G a_tS,ktW,ktS⟩
 have hsum:=PySem.W.mg_none_of X G z_sum
 have hmax:=PySem.W.mg_none_of X G z_max
 have Z:TaZ K mg qY:=⟨⟨pgY,hdY,poY,saY⟩,PySem.W.mg_of X G a_qY,nY_test,nY_named,nY_most,nY_counted,nY_beyond,nY___bool__⟩
 have BT:∀ n,BadT K (clT qT qK qZ n) qV qS:=fun n=>match n with
  |0=>⟨mvT,msT,g1T,g2T,g3T,g4T,g5T⟩
  |1=>⟨mvK,msK,g1K,g2K,g3K,g4K,g5K⟩
  |_+2=>⟨mvZ,msZ,g1Z,g2Z,g3Z,g4Z,g5Z⟩
 have GCp:=ok_cp (P:=l.prog) (w:=w) (base:=base) DCp T hsum TK' TB DNm DIw DNb DLf 5 (by decide)
 have GIt:=ok_it (P:=l.prog) (w:=w) (base:=base) DIt.F TT DCp GCp
 have GBT:=ok_BadTest (P:=l.prog) (w:=w) (base:=base) (CX:=CX0) FiT TE FSE bSE MS
 have GBK:=ok_BadKeys (P:=l.prog) (w:=w) (base:=base) (CX:=CX0) FiK TE FSE bSE MS
 have GBZ:=ok_BadSize (P:=l.prog) (w:=w) (base:=base) (CX:=CX0) FiZ TE FSE bSE MS
 have GNt:=ok_nt (P:=l.prog) (w:=w) (base:=base) DNt.F DIt GIt WCT GBT
 have GNk:=ok_nk (P:=l.prog) (w:=w) (base:=base) DNk.F T TK' TY DNm WCK GBK
 have GTI:=ok_ti (P:=l.prog) (w:=w) (base:=base) FYI T TY Z DNt GNt DNk GNk WCZ GBZ
 have GTe:=ok_te (P:=l.prog) (w:=w) (base:=base) DTe.F T hsum DP DO DNu DLe DTr DPa
 have GBt:=ok_bt (P:=l.prog) (w:=w) (base:=base) DBt T DP DO DW DFr DOd 5
 have GSo:=ok_so (P:=l.prog) (w:=w) (base:=base) DSo T DIs DLo 8
 have GTo:=ok_to (P:=l.prog) (w:=w) (base:=base) DTo.F DSo GSo DDe (ok_de DDe hmax 8) DPa (ok_pa DPa hsum 8)
 have GA:=ok_ask (P:=l.prog) (w:=w) (base:=base) (CX:=CX0) (k:=14) DA.F TA
 exact ok_law lLa cLa (hd_of kb0' tb) hbb hg trivial (fun lp m=>rfl) T (PySem.W.mg_none_of X G z_set) Z BT DB DP DO DW DWs DS DTe GTe DBt GBt DTo GTo DIs (ok_isnm DIs.F T) DOd (ok_odd DOd.F T DP DO) DFr (ok_far DFr.F T DP) MkY (kb_tally hkY) GTI MTb (ok_tb FTb (PySem.W.mg_none_of X G z_sorted) Z) MTd (ok_td FTd Z) MTl (ok_tl FTl T Z) GA (PySem.W.mg_of X G aA) kA bA
end Cm
open PySem PySem.W PyProof.Rows
set_option maxRecDepth 100000 in
set_option maxHeartbeats 0 in
theorem PySem.Challenge.cw_lanescribe_k23_tallies_refused_holds : PySem.Challenge.rw_lanescribe_k23_tallies_refused.Holds := by
 w_on
 refine Kd.head ?hw (by rfl) (by rfl) (by rfl) ?hc
 (case hw=>w_witness2)
 k_fill
 refine L2.walk_ofM (l:=PySem.Challenge.rw_lanescribe_k23_tallies_refused) (n:=63) (k:=16) (x:="_law_script") (CX:=fun _=>L2.CX0) rfl (by decide) rfl ⟨rfl,by decide,by decide,rfl⟩ (fun w h Y=>PySem.W.km_in_of Y) (fun w h Y=>PySem.W.km_tabs_of Y) ?F (fun _ _ _ _ _ z=>z)
 case F=>
  intro w mg fa h KX G hmg
  refine' Cm.all_mk KX G hmg ?aLa ?lLa ?lcc ?lTt ?tb ?cLa ?aB ?lB ?cB ?kB ?aP ?lP ?cP ?kP ?aO ?lO ?cO ?kO ?aW ?lW ?cW ?kW ?aWs ?lWs ?cWs ?kWs ?aS ?lS ?cS ?kS ?aFr ?lFr ?cFr ?kFr ?aIs ?lIs ?cIs ?kIs ?aOd ?lOd ?cOd ?kOd ?aNu ?lNu ?cNu ?kNu ?aLe ?lLe ?cLe ?kLe ?aTr ?lTr ?cTr ?kTr ?aPa ?lPa ?cPa ?kPa ?aDe ?lDe ?cDe ?kDe ?aTe ?lTe ?cTe ?kTe ?aLo ?lLo ?cLo ?kLo ?aSo ?lSo ?cSo ?kSo ?aTo ?lTo ?cTo ?kTo ?aBt ?lBt ?cBt ?kBt ?aA ?lA ?cA ?kA ?aNm ?lNm ?cNm ?kNm ?aIw ?lIw ?cIw ?kIw ?aNb ?lNb ?cNb ?kNb ?aLf ?lLf ?cLf ?kLf ?aCp ?lCp ?cCp ?kCp ?aIt ?lIt ?cIt ?kIt ?aNt ?lNt ?cNt ?kNt ?aNk ?lNk ?cNk ?kNk ?z_len ?z_range ?z_list ?z_tuple ?z_str ?z_bool ?z_int ?z_min ?z_repr ?z_all ?z_any ?z_isinstance ?z_sum ?z_max ?z_ValueError ?z_set ?z_sorted ?z_enumerate ?i_MOST_LETTERS ?i_LIMIT ?i_MOST_PARTS ?i_MOST_DEEP ?i_MOST_NAMED ?i_KEYS_LIMIT ?a_tW ?ktW ?a_tS ?ktS ?a_qY ?pgY ?hdY ?poY ?saY ?mkY ?kcY ?nY_test ?nY_named ?nY_most ?nY_counted ?nY_beyond ?nY___bool__ ?aYI ?lYI ?cYI ?kYI ?iYI ?hkY ?aTb ?iTb ?lTb ?cTb ?kTb ?aTd ?iTd ?lTd ?cTd ?kTd ?aTl ?iTl ?lTl ?cTl ?kTl ?a_qS ?a_qV ?a_qM ?x1S ?x2S ?x3S ?x4S ?x5S ?x1V ?x2V ?x3V ?x4V ?x5V ?x1M ?x2M ?x3M ?x4M ?x5M ?aSE ?lSE ?cSE ?kSE ?lTS ?fc ?sg ?rd1 ?rd2 ?a_qT ?x1T ?x2T ?x3T ?x4T ?x5T ?tkT ?aiT ?liT ?ciT ?kiT ?biT ?niT ?lTT ?mvT ?msT ?g1T ?g2T ?g3T ?g4T ?g5T ?a_qK ?x1K ?x2K ?x3K ?x4K ?x5K ?tkK ?aiK ?liK ?ciK ?kiK ?biK ?niK ?lTK ?mvK ?msK ?g1K ?g2K ?g3K ?g4K ?g5K ?a_qZ ?x1Z ?x2Z ?x3Z ?x4Z ?x5Z ?tkZ ?aiZ ?liZ ?ciZ ?kiZ ?biZ ?niZ ?lTZ ?mvZ ?msZ ?g1Z ?g2Z ?g3Z ?g4Z ?g5Z
  (case aLa=>k_is)
  (case lLa=>k_is)
  (case lcc=>k_is)
  (case lTt=>kernel_rfl)
  (case tb=>kernel_rfl)
  (case cLa=>k_is)
  (case aB=>k_is)
  (case lB=>k_is)
  (case cB=>k_is)
  (case kB=>k_is)
  (case aP=>k_is)
  (case lP=>k_is)
  (case cP=>k_is)
  (case kP=>k_is)
  (case aO=>k_is)
  (case lO=>k_is)
  (case cO=>k_is)
  (case kO=>k_is)
  (case aW=>k_is)
  (case lW=>k_is)
  (case cW=>k_is)
  (case kW=>k_is)
  (case aWs=>k_is)
  (case lWs=>k_is)
  (case cWs=>k_is)
  (case kWs=>k_is)
  (case aS=>k_is)
  (case lS=>k_is)
  (case cS=>k_is)
  (case kS=>k_is)
  (case aFr=>k_is)
  (case lFr=>k_is)
  (case cFr=>k_is)
  (case kFr=>k_is)
  (case aIs=>k_is)
  (case lIs=>k_is)
  (case cIs=>k_is)
  (case kIs=>k_is)
  (case aOd=>k_is)
  (case lOd=>k_is)
  (case cOd=>k_is)
  (case kOd=>k_is)
  (case aNu=>k_is)
  (case lNu=>k_is)
  (case cNu=>k_is)
  (case kNu=>k_is)
  (case aLe=>k_is)
  (case lLe=>k_is)
  (case cLe=>k_is)
  (case kLe=>k_is)
  (case aTr=>k_is)
  (case lTr=>k_is)
  (case cTr=>k_is)
  (case kTr=>k_is)
  (case aPa=>k_is)
  (case lPa=>k_is)
  (case cPa=>k_is)
  (case kPa=>k_is)
  (case aDe=>k_is)
  (case lDe=>k_is)
  (case cDe=>k_is)
  (case kDe=>k_is)
  (case aTe=>k_is)
  (case lTe=>k_is)
  (case cTe=>k_is)
  (case kTe=>k_is)
  (case aLo=>k_is)
  (case lLo=>k_is)
  (case cLo=>k_is)
  (case kLo=>k_is)
  (case aSo=>k_is)
  (case lSo=>k_is)
  (case cSo=>k_is)
  (case kSo=>k_is)
  (case aTo=>k_is)
  (case lTo=>k_is)
  (case cTo=>k_is)
  (case kTo=>k_is)
  (case aBt=>k_is)
  (case lBt=>k_is)
  (case cBt=>k_is)
  (case kBt=>k_is)
  (case aA=>k_is)
  (case lA=>k_is)
  (case cA=>k_is)
  (case kA=>k_is)
  (case aNm=>k_is)
  (case lNm=>k_is)
  (case cNm=>k_is)
  (case kNm=>k_is)
  (case aIw=>k_is)
  (case lIw=>k_is)
  (case cIw=>k_is)
  (case kIw=>k_is)
  (case aNb=>k_is)
  (case lNb=>k_is)
  (case cNb=>k_is)
  (case kNb=>k_is)
  (case aLf=>k_is)
  (case lLf=>k_is)
  (case cLf=>k_is)
  (case kLf=>k_is)
  (case aCp=>k_is)
  (case lCp=>k_is)
  (case cCp=>k_is)
  (case kCp=>k_is)
  (case aIt=>k_is)
  (case lIt=>k_is)
  (case cIt=>k_is)
  (case kIt=>k_is)
  (case aNt=>k_is)
  (case lNt=>k_is)
  (case cNt=>k_is)
  (case kNt=>k_is)
  (case aNk=>k_is)
  (case lNk=>k_is)
  (case cNk=>k_is)
  (case kNk=>k_is)
  (case z_len=>k_is)
  (case z_range=>k_is)
  (case z_list=>k_is)
  (case z_tuple=>k_is)
  (case z_str=>k_is)
  (case z_bool=>k_is)
  (case z_int=>k_is)
  (case z_min=>k_is)
  (case z_repr=>k_is)
  (case z_all=>k_is)
  (case z_any=>k_is)
  (case z_isinstance=>k_is)
  (case z_sum=>k_is)
  (case z_max=>k_is)
  (case z_ValueError=>k_is)
  (case z_set=>k_is)
  (case z_sorted=>k_is)
  (case z_enumerate=>k_is)
  (case i_MOST_LETTERS=>k_is)
  (case i_LIMIT=>k_is)
  (case i_MOST_PARTS=>k_is)
  (case i_MOST_DEEP=>k_is)
  (case i_MOST_NAMED=>k_is)
  (case i_KEYS_LIMIT=>k_is)
  (case a_tW=>k_is)
  (case ktW=>kernel_rfl)
  (case a_tS=>k_is)
  (case ktS=>kernel_rfl)
  (case a_qY=>k_is)
  (case pgY=>k_is)
  (case hdY=>k_is)
  (case poY=>k_is)
  (case saY=>k_is)
  (case mkY=>k_is)
  (case kcY=>k_is)
  (case nY_test=>k_is)
  (case nY_named=>k_is)
  (case nY_most=>k_is)
  (case nY_counted=>k_is)
  (case nY_beyond=>k_is)
  (case nY___bool__=>k_is)
  (case aYI=>k_is)
  (case lYI=>k_is)
  (case cYI=>k_is)
  (case kYI=>k_is)
  (case iYI=>k_is)
  (case hkY=>intros;kernel_rfl)
  (case aTb=>k_is)
  (case iTb=>k_is)
  (case lTb=>k_is)
  (case cTb=>k_is)
  (case kTb=>k_is)
  (case aTd=>k_is)
  (case iTd=>k_is)
  (case lTd=>k_is)
  (case cTd=>k_is)
  (case kTd=>k_is)
  (case aTl=>k_is)
  (case iTl=>k_is)
  (case lTl=>k_is)
  (case cTl=>k_is)
  (case kTl=>k_is)
  (case a_qS=>k_is)
  (case a_qV=>k_is)
  (case a_qM=>k_is)
  (case x1S=>kernel_rfl)
  (case x2S=>k_is)
  (case x3S=>kernel_rfl)
  (case x4S=>k_is)
  (case x5S=>k_is)
  (case x1V=>kernel_rfl)
  (case x2V=>k_is)
  (case x3V=>kernel_rfl)
  (case x4V=>k_is)
  (case x5V=>k_is)
  (case x1M=>kernel_rfl)
  (case x2M=>k_is)
  (case x3M=>kernel_rfl)
  (case x4M=>k_is)
  (case x5M=>k_is)
  (case aSE=>k_is)
  (case lSE=>k_is)
  (case cSE=>k_is)
  (case kSE=>k_is)
  (case lTS=>k_is)
  (case fc=>k_is)
  (case sg=>k_is)
  (case rd1=>k_is)
  (case rd2=>k_is)
  (case a_qT=>k_is)
  (case x1T=>kernel_rfl)
  (case x2T=>k_is)
  (case x3T=>kernel_rfl)
  (case x4T=>k_is)
  (case x5T=>k_is)
  (case tkT=>k_is)
  (case aiT=>k_is)
  (case liT=>k_is)
  (case ciT=>k_is)
  (case kiT=>k_is)
  (case biT=>k_is)
  (case niT=>k_is)
  (case lTT=>k_is)
  (case mvT=>k_is)
  (case msT=>k_is)
  (case g1T=>k_is)
  (case g2T=>k_is)
  (case g3T=>k_is)
  (case g4T=>k_is)
  (case g5T=>k_is)
  (case a_qK=>k_is)
  (case x1K=>kernel_rfl)
  (case x2K=>k_is)
  (case x3K=>kernel_rfl)
  (case x4K=>k_is)
  (case x5K=>k_is)
  (case tkK=>k_is)
  (case aiK=>k_is)
  (case liK=>k_is)
  (case ciK=>k_is)
  (case kiK=>k_is)
  (case biK=>k_is)
  (case niK=>k_is)
  (case lTK=>k_is)
  (case mvK=>k_is)
  (case msK=>k_is)
  (case g1K=>k_is)
  (case g2K=>k_is)
  (case g3K=>k_is)
  (case g4K=>k_is)
  (case g5K=>k_is)
  (case a_qZ=>k_is)
  (case x1Z=>kernel_rfl)
  (case x2Z=>k_is)
  (case x3Z=>kernel_rfl)
  (case x4Z=>k_is)
  (case x5Z=>k_is)
  (case tkZ=>k_is)
  (case aiZ=>k_is)
  (case liZ=>k_is)
  (case ciZ=>k_is)
  (case kiZ=>k_is)
  (case biZ=>k_is)
  (case niZ=>k_is)
  (case lTZ=>k_is)
  (case mvZ=>k_is)
  (case msZ=>k_is)
  (case g1Z=>k_is)
  (case g2Z=>k_is)
  (case g3Z=>k_is)
  (case g4Z=>k_is)
  (case g5Z=>k_is)
