import PyProof.Rows.All
import Wide.All
import OpenK.AllK
import Wide.FinOn
import KE.KNestM
import Lean
import PyProof.EqAt
import PyProof.EqKinds
import PyProof.TupleCall
import PyProof.StationsW
import PyProof.ExcBaseAll.ValueError
import PyProof.InstStoreFacts
import PyProof.RulesAs
import PyProof.RulesDel
import KE.KLam
import PyProof.ExcArgsOwn
import PyProof.AutoListH
import PyProof.StrWalks
import PyProof.StrBlockH
import PyProof.WalkInts
import PyProof.SeqI3
import PyProof.Rows.SetFrom
import PyProof.ZipIter
import KE.KTabLook
import PyProof.StrLaws
import KE.KIntText
import KE.KStrOpen
import PyProof.StrLawsTight
import PyProof.Rows.StrFit
import PyProof.Draws
import PyProof.EnumMake
import PyProof.StrCalls2
import PyProof.Rows.StrSplitJoin
import PyProof.CollectIter
import PyProof.StrBlock2
import PyProof.Rows.SortWalk
import PyProof.Rows.CallKwBuiltin
import KE.KMinBuiltin
import KE.KRevSl
import PyProof.DictItemsLoops
import PyProof.CollectWalk
import PyProof.ListRange
import KE.KSortAsk
import PyProof.SetRoads
import KE.KRevIter
import PyProof.FactsAll.range_2
import PyProof.IsRules
import PySem.Challenge.RW_lanescribe_k11_whole_shorter_ways_tell_t
set_option Elab.async false
set_option linter.all false
set_option maxRecDepth 1000000
set_option maxHeartbeats 0
namespace Kd
open PySem PySem.W
noncomputable section
theorem vV {p q:Program} {loose:List Str} {Xt:Shared->Bool} {α:Type} {Yf:Shared->α} {Ya:World->α} {N:Nat} (e:opening p=plainProg p.main.scope.names) (hN:Nat.ble 600 N=true) (f:∀ s,fenceModules? p s=some s)
 (h:∀ (w:World) (os:OsState),(topFrom treeTable p w N ⟨boot_heap w.params,Array.mk [],boot_drawn,boot_toks,os⟩).map (fun s=>(openSeen q loose (importedModules p.main.body) Xt true s,Yf s))=some (openGood q loose,Ya w)):LeftO p q loose Xt Yf Ya N:=fun w=>by
 obtain ⟨⟨h',gs,d,k,os⟩,e1,e2⟩:=Option.map_eq_some_iff.mp (boot_open e hN f w)
 obtain ⟨rfl,rfl,rfl,rfl⟩:h'=boot_heap w.params/\gs=Array.mk []/\d=boot_drawn/\k=boot_toks:=by simpa using e2
 unfold openEnds
 rw [e1]
 exact h w os
noncomputable abbrev u (x:String):Str:=Str.ofString x
noncomputable abbrev vs (x:String) (t:Nat):Value:=.str (Str.ofString x) t
noncomputable abbrev vi (x:Int) (t:Nat):Value:=.int x t
noncomputable abbrev vr (x:Nat):Value:=.ref x
noncomputable abbrev vt (x:String):Value:=.type x
noncomputable abbrev vn:Value:=.none
noncomputable abbrev vb:Value:=.bool true
noncomputable abbrev vf (t:Nat):Value:=.str (Str.ofString "/claim/cut.py") t
noncomputable abbrev ot (x:Array Value):Obj:={ cls:=.type "tuple",data:=Data.seq x }
noncomputable abbrev oc (x:Array Value):Obj:={ cls:=.type "code",data:=Data.fields x }
noncomputable abbrev of (n q:String) (a:Arguments) (b:List Stmt) (s:Scope) (d m c:Value):Obj:={ cls:=.type "function",data:=Data.func { name:=Str.ofString n,qualname:=Str.ofString q,params:=a,body:=FuncBody.stmts b,scope:=s,globals:=3,closure:=[],defaults:=d,kwdefaults:=.none,pyModule:=m,code:=c } }
noncomputable abbrev de (P:Params) (x:String) (t:Nat) (v:Value):DictEntry:={ hash:=PyData.keyHash P (Str.ofString x),key:=.str (Str.ofString x) t,val:=v }
noncomputable def tp (i:Nat):Stmt:=PySem.Challenge.pw_lanescribe_k11_whole_shorter_ways_tell_t.main.body.getD i (.Pass ⟨0,0,0,0⟩)
noncomputable def meth (i j:Nat):Stmt:=match tp i with
 |.ClassDef _ _ _ body _ _ _ _ _ _ _=>body.getD j (.Pass ⟨0,0,0,0⟩)
 |_=>.Pass ⟨0,0,0,0⟩
noncomputable def dA (s:Stmt):Arguments:=match s with
 |.FunctionDef _ a _ _ _ _ _ _ _ _=>a
 |_=>{ posonlyargs:=[],args:=[],vararg:=none,kwonlyargs:=[],kw_defaults:=[],kwarg:=none,defaults:=[] }
noncomputable def dB (s:Stmt):List Stmt:=match s with
 |.FunctionDef _ _ b _ _ _ _ _ _ _=>b
 |_=>[]
noncomputable def dS (s:Stmt):Scope:=match s with
 |.FunctionDef _ _ _ _ _ _ sc _ _ _=>sc
 |_=>{ kind:=.function,names:=[],isGenerator:=false,isCoroutine:=false }
noncomputable abbrev TA (i:Nat):Arguments:=dA (tp i)
noncomputable abbrev TB (i:Nat):List Stmt:=dB (tp i)
noncomputable abbrev TS (i:Nat):Scope:=dS (tp i)
noncomputable abbrev MA (i j:Nat):Arguments:=dA (meth i j)
noncomputable abbrev MB (i j:Nat):List Stmt:=dB (meth i j)
noncomputable abbrev MS (i j:Nat):Scope:=dS (meth i j)
noncomputable abbrev og (n q:String) (a:Arguments) (b:List Stmt) (s:Scope):Obj:={ cls:=.none,data:=Data.func { name:=Str.ofString n,qualname:=Str.ofString q,params:=a,body:=FuncBody.stmts b,scope:=s,globals:=0,closure:=[],defaults:=.none,kwdefaults:=.none } }
noncomputable abbrev gt (n:String) (i:Nat):Obj:=og n n (TA i) (TB i) (TS i)
noncomputable abbrev gm (n q:String) (i j:Nat):Obj:=og n q (MA i j) (MB i j) (MS i j)
noncomputable abbrev ft (n:String) (i:Nat):Value->Value->Value->Obj:=of n n (TA i) (TB i) (TS i)
noncomputable abbrev fm (n q:String) (i j:Nat):Value->Value->Value->Obj:=of n q (MA i j) (MB i j) (MS i j)
noncomputable abbrev oq (n:String) (a:Nat) (q:String) (b c:Nat) (l k:Int) (r s:Nat) (x y z:Value) (t:Int) (d:Nat):Obj:=oc #[vs n a,vs q b,vf c,vi l 0,vi k 0,vi 0 0,vi 0 0,vi 3 0,vr r,vb,vi 181 0,vr s,vn,x,y,z,vi t 0,vi l 0,vf d]
noncomputable abbrev ok (n:String) (a b c:Nat) (l k:Int) (r s:Nat) (x y z:Value) (t:Int) (d:Nat):Obj:=oq n a n b c l k r s x y z t d
noncomputable abbrev z1:Value:=vs "law_lanescribe_k11_whole_shorter_ways_tell_t" 761
noncomputable abbrev z2:Value:=vs "lanescribe.errors" 194
noncomputable abbrev z3:Value:=vs "lanescribe.kinds" 401
noncomputable abbrev z4:Value:=vs "lanescribe.ways" 616
noncomputable abbrev z5:Value:=vs "lanescribe.sieve" 540
noncomputable abbrev z6:Value:=vs "ScribeError" 204
noncomputable def nm (t:Nat) (l:List String):List Value:=List.rec (fun _=>[]) (fun x _ ih t=>.str (Str.ofString x) t::ih (t+1)) l t
noncomputable abbrev on (t:Nat) (l:List String):Obj:=ot ⟨nm t l⟩
noncomputable def lm (c:Nat) (l:List (Nat×Nat)):List Value:=List.rec [] (fun x _ ih=>.int x.1 0::.int c 0::.ref x.2::ih) l
noncomputable abbrev ol (c:Nat) (l:List (Nat×Nat)):Obj:={ cls:=.none,data:=Data.fields ⟨lm c l⟩ }
noncomputable abbrev od (n:Nat) (l:List DictEntry):Obj:={ cls:=.type "dict",data:=Data.dict ⟨l⟩ n }
noncomputable abbrev dr (P:Params) (x:String) (t a:Nat):DictEntry:=de P x t (.ref a)
noncomputable abbrev dn (P:Params) (x:String) (t:Nat):DictEntry:=de P x t .none
noncomputable def dl (P:Params) (l:List (String×Nat×Nat)) (z:List DictEntry):List DictEntry:=List.rec z (fun x _ ih=>dr P x.1 x.2.1 x.2.2::ih) l
noncomputable def r2  (t:List Obj):List Obj:=ot #[]::{cls:=vn,data:=Data.fields #[]}::t
noncomputable def r3 (P:Params) (a b c d:Nat) (e:String) (f:Nat) (t:List Obj):List Obj:=od 2 [de P "__module__" (a+7) z2,de P "__firstlineno__" (a+11) (vi b (a+10)),dr P "__init__" c d,dr P "__static_attributes__" (a+21) (d+1),dn P "__doc__" (a+22)]::{cls:=vt "type",data:=Data.cls {name:=u e,bases:=[vr 39],mro:=[vr (d+3),vr 39,vt "ValueError",vt "Exception",vt "BaseException",vt "object"],ns:=(d+2),qualname:=u e},slots:=#[some (vr f),none,some (vs e a),some (vs e (a+8)),some (Value.builtin "ValueError.__new__"),some (vb)]}::t
noncomputable def r4 (a:String) (b c d:Nat) (e:Value) (t:List Obj):List Obj:=oc #[vs a b,vs a (b+1),vf (b+2),vi c 0,vi 0 0,vi 0 0,vi 0 0,vi 0 0,vr (d+1),Value.bool false,vi 181 0,vr (d+2),vn,vn,vn,vn,vi (b+3) 0,vi c 0,vf (b+4)]::{cls:=vt "frame",slots:=#[some (vr (d+3)),some (vr 3),some (vr d),none,some e,none,some (vr 0)]}::t
noncomputable def r5 (P:Params) (a:Nat) (b:String) (c d e:Nat) (t:List Obj):List Obj:={cls:=vt "builtin_function_or_method",data:=Data.fields #[Value.builtin "type.__prepare__",vt "type"]}::od 5 [de P "__module__" a z2,de P "__qualname__" (a+2) (vs b (a+1)),de P "__firstlineno__" (a+4) (vi c (a+3)),dr P "__init__" d e,dr P "__static_attributes__" (a+14) (e+1)]::t
noncomputable def r6 (a:Nat) (t:List Obj):List Obj:={cls:=vt "super",data:=Data.fields #[vr a,vr a,vr a]}::{cls:=vt "builtin_function_or_method",data:=Data.fields #[Value.builtin "object.__init_subclass__",vr a]}::t
noncomputable def r7 (a b:String) (c d e f g h i:Nat) (t:List Obj):List Obj:=gm a b c d::oq a e b (e+1) (e+2) f g h (h+1) (vr (h+2)) (vr (h+3)) (vr (h+4)) i (i+1)::t
noncomputable def r10 (a:String) (b c d e f g:Nat) (h:Value) (t:List Obj):List Obj:=r7 "__init__" a b 0 c d e (f+1) g<|fm "__init__" a b 0 (vr f) h (vr (f+6))::t
noncomputable def r11 (a:Nat) (b:List String) (t:List Obj):List Obj:=on a b::ot #[]::t
noncomputable def r12 (a b:String) (c d e f g h i:Nat) (j:Value) (t:List Obj):List Obj:=r7 a b c d e f g h i<|fm a b c d vn j (vr (h+5))::t
noncomputable def r14 (a:String) (b c d e f:Nat) (g:Value) (t:List Obj):List Obj:=gt a b::ok a c (c+1) (c+2) d e f (f+1) vn vn (vr (f+2)) (c+3) (c+4)::ft a b vn g (vr (f+3))::t
noncomputable def r15 (a b:Nat) (t:List Obj):List Obj:={cls:=vt "getset_descriptor",data:=Data.fields #[vs "__weakref__" a,vr b,Value.builtin "ExceptionGroup.__weakref__",vn]}::(r6 b<|t)
noncomputable def r16 (a:Nat) (b:List String) (c:String) (d e f g h:Nat) (i:Value) (t:List Obj):List Obj:=r2<|r11 (a+3) b<|gt c d::ok c a (a+1) (a+2) e f g (g+1) (vr (g+2)) (vr (g+3)) (vr (g+4)) h (h+1)::ft c d vn i (vr (g+5))::t
noncomputable def r17 (a:List (Nat×Nat)) (t:List Obj):List Obj:=ot #[]::ol 4 a::t
noncomputable def yH (P:Params) (t:List DictEntry):List DictEntry:=dn P "__doc__" 166::dn P "__package__" 167::de P "__loader__" 168 (Value.builtin "__main__.__loader__#opaque")::dn P "__spec__" 169::(dl P [("__annotations__",170,6),("__builtins__",171,4)]<|de P "__file__" 173 (vf 172)::dn P "__cached__" 174::(dl P [("_wall",193,21),("ScribeError",225,39),("BadName",250,60),("BadBounds",275,80),("BadTest",300,100),("BadWay",325,120)]<|t))
noncomputable def vd (P:Params) (t:List DictEntry):List DictEntry:=dl P [("Taken",350,140),("Full",375,160),("BadValue",400,179)]<|de P "LIMIT" 404 (vi 999999 403)::de P "MOST_LETTERS" 406 (vi 8 405)::de P "MOST_FIELDS" 408 (vi 4 407)::(dl P [("is_name",415,188),("need_name",422,195),("need_fields",433,202),("bounds_text",439,207),("Kind",539,282)]<|t)
noncomputable def yo (P:Params) (t:List DictEntry):List DictEntry:=de P "MOST_PARTS" 543 (vi 15 542)::de P "MOST_DEEP" 545 (vi 5 544)::(dl P [("WITHIN",555,287),("SIGN_OF",562,288),("is_word",569,295),("is_number",576,302),("is_leaf",584,309),("count_parts",590,314),("is_test",597,321),("need_test",604,328),("passes_leaf",615,335)]<|de P "NO" 619 (vi 0 618)::de P "YES" 621 (vi 1 620)::de P "ROW" 623 (vi 2 622)::(dl P [("is_way",629,340),("is_row",641,347),("can_be_asked",648,354),("leads_on",657,361),("need_way",664,368),("made",672,375),("lay_test",683,382),("lay_row",694,389),("way_from",700,394),("run",711,401),("steps",722,408),("walk",737,415),("shorter",752,422),("goal_of",760,429),("_law_begin",771,436),("_law_pick",782,443),("_law_of",790,450),("_law_far",798,457),("_law_same",804,462),("_law_word",810,467),("_law_words",822,474)]<|t))
noncomputable def DQ (P:Params) (t:List DictEntry):List DictEntry:=dl P [("_law_bound",830,481),("_law_fields",843,488),("_law_value",854,495),("_law_is_name",860,500),("_law_odd_name",869,507),("_law_number",876,514),("_law_leaf",886,521),("_law_tree",898,528),("_law_parts",904,533),("_law_deep",910,538),("_law_test",920,545),("_law_leaf_ok",927,552),("_law_shape_ok",934,559),("_law_test_ok",941,566),("_law_bent_test",951,573),("_law_passes",957,578),("_law_kind_of",965,585),("_law_names_of",971,590),("_law_near_values",977,595),("_law_leaves_any",986,602),("_law_ended",993,609),("_law_way_ok",1007,616),("_law_bent_way",1022,623),("_law_walked",1039,630)]<|t
noncomputable def Jr (t:List (Nat×Nat)):List (Nat×Nat):=(1,20)::(5,27)::(10,48)::(14,68)::(18,88)::(22,108)::(26,128)::(30,148)::(34,168)::(43,187)::(45,194)::(48,201)::(57,206)::(59,213)::(104,294)::(106,301)::(108,308)::(115,313)::(124,320)::(126,327)::(129,334)::(143,339)::(150,346)::(153,353)::(155,360)::(157,367)::(160,374)::(164,381)::(175,388)::(182,393)::(196,400)::(199,407)::(202,414)::(212,421)::(221,428)::(226,435)::(231,442)::(246,449)::(248,456)::(251,461)::(261,466)::(267,473)::t
noncomputable def o1:Obj:={cls:=vn,data:=Data.fields #[]}
noncomputable def o4 (P:Params):Obj:=od 15 (de P "__name__" 165 z2::(yH P<|[]))
noncomputable def o5:Obj:=ol 0 [(1,20),(5,27),(10,48),(14,68),(18,88),(22,108)]
noncomputable def Qe:Obj:={cls:=vt "type",data:=Data.cls {name:=u "ScribeError",bases:=[vt "ValueError"],mro:=[vr 39,vt "ValueError",vt "Exception",vt "BaseException",vt "object"],ns:=38,qualname:=u "ScribeError",subclasses:=[vr 60,vr 80,vr 100,vr 120]},slots:=#[some (vr 22),none,some (vs "ScribeError" 196),some z6,some (Value.builtin "ValueError.__new__"),some (vb)]}
noncomputable def PN (P:Params):Obj:=od 26 (de P "__name__" 165 z3::(yH P<|vd P<|[]))
noncomputable def QF:Obj:=ol 0 [(1,20),(5,27),(10,48),(14,68),(18,88),(22,108),(26,128),(30,148),(34,168),(43,187),(45,194),(48,201),(57,206),(59,213)]
noncomputable def Ml:Obj:={cls:=vt "type",data:=Data.cls {name:=u "ScribeError",bases:=[vt "ValueError"],mro:=[vr 39,vt "ValueError",vt "Exception",vt "BaseException",vt "object"],ns:=38,qualname:=u "ScribeError",subclasses:=[vr 60,vr 80,vr 100,vr 120,vr 140,vr 160,vr 179]},slots:=#[some (vr 22),none,some (vs "ScribeError" 196),some z6,some (Value.builtin "ValueError.__new__"),some (vb)]}
noncomputable def N5 (P:Params):Obj:=od 61 (de P "__name__" 165 z1::(yH P<|vd P<|yo P<|[]))
noncomputable def Oj:Obj:=ol 0 (Jr<|[])
noncomputable def Pq (P:Params):Obj:=od 85 (de P "__name__" 165 z1::(yH P<|vd P<|yo P<|DQ P<|[]))
noncomputable def K1:Obj:=ol 0 (Jr<|(276,480)::(279,487)::(287,494)::(290,499)::(292,506)::(295,513)::(297,520)::(304,527)::(312,532)::(316,537)::(320,544)::(323,551)::(333,558)::(341,565)::(343,572)::(369,577)::(383,584)::(386,589)::(388,594)::(398,601)::(404,608)::(406,615)::(420,622)::(447,629)::[])
noncomputable def k2:Obj:={cls:=vn,data:=Data.dict #[]}
noncomputable def k3 (P:Params):Obj:=od 89 (de P "__name__" 165 z1::(yH P<|vd P<|yo P<|DQ P<|dr P "_law_some_way" 1050 637::dr P "_law_kept_way" 1057 644::dr P "_law_lean" 1063 649::dr P "law" 1081 656::[]))
noncomputable def ug (P:Params) (x2 x3 x12:Obj) (t:List Obj):List Obj:=boot_o_0 P::boot_o_1 P::x2::x3::boot_o_4 P::boot_o_5 P::boot_o_6 P::boot_o_7 P::boot_o_8 P::boot_o_9 P::boot_o_10 P::ot #[]::x12::oc #[vs "<module>" 182,vs "<module>" 183,vf 184,vi 1 0,vi 0 0,vi 0 0,vi 0 0,vi 0 0,vr 11,Value.bool false,vi 181 0,vr 12,vn,vn,vn,vn,vi 185 0,vi 1 0,vf 186]::{cls:=vt "frame",slots:=#[some (vr 13),some (vr 3),some (vr 3),none,some (vs "__main__" 164),none,some (vr 0)]}::t
noncomputable def xW (P:Params) (x39:Obj) (t:List Obj):List Obj:=r2<|r11 190 ["k"]<|gt "_wall" 0::ok "_wall" 187 188 189 1 1 15 16 (vr 17) (vr 18) (vr 19) 191 192::ft "_wall" 0 vn (vs "__main__" 164) (vr 20)::ot #[vt "ValueError"]::{cls:=vt "builtin_function_or_method",data:=Data.fields #[Value.builtin "type.__prepare__",vt "type"]}::od 5 [de P "__module__" 203 z2,de P "__qualname__" 205 z6,de P "__firstlineno__" 207 (vi 5 206),dr P "__init__" 218 36,dr P "__static_attributes__" 220 37]::(r17 [(7,35)]<|r4 "ScribeError" 198 5 24 z2<|on 208 ["","scribeerror"]::(r2<|r11 213 ["self","words","word"]<|r10 "ScribeError.__init__" 2 210 7 3 29 216 z2<|on 219 ["word"]::od 3 [de P "__module__" 203 z2,de P "__firstlineno__" 207 (vi 5 206),dr P "__init__" 218 36,dr P "__static_attributes__" 220 37,dr P "__weakref__" 222 40,dn P "__doc__" 223]::x39::(r15 221 39<|ot #[vr 39]::(r5 P 233 "BadName" 10 246 57<|r17 [(12,56)]<|r4 "BadName" 228 10 45 z2<|on 238 [""]::(r2<|r11 242 ["self","words"]<|t)))))
noncomputable def zQ (P:Params) (t:List Obj):List Obj:=r10 "BadName.__init__" 3 239 12 2 50 244 z2<|ot #[]::(r3 P 226 10 246 57 "BadName" 43<|r6 60<|ot #[vr 39]::(r5 P 258 "BadBounds" 14 271 77<|r17 [(16,76)]<|r4 "BadBounds" 253 14 65 z2<|on 263 [""]::(r2<|r11 267 ["self","words"]<|r10 "BadBounds.__init__" 4 264 16 2 70 269 z2<|ot #[]::(r3 P 251 14 271 77 "BadBounds" 63<|r6 80<|ot #[vr 39]::(r5 P 283 "BadTest" 18 296 97<|r17 [(20,96)]<|r4 "BadTest" 278 18 85 z2<|on 288 [""]::(r2<|r11 292 ["self","words"]<|t))))))
noncomputable def Am (P:Params) (t:List Obj):List Obj:=r10 "BadTest.__init__" 5 289 20 2 90 294 z2<|ot #[]::(r3 P 276 18 296 97 "BadTest" 83<|r6 100<|ot #[vr 39]::(r5 P 308 "BadWay" 22 321 117<|r17 [(24,116)]<|r4 "BadWay" 303 22 105 z2<|on 313 [""]::(r2<|r11 317 ["self","words"]<|r10 "BadWay.__init__" 6 314 24 2 110 319 z2<|ot #[]::(r3 P 301 22 321 117 "BadWay" 103<|r6 120<|t))))
noncomputable def Cq (P:Params) (t:List Obj):List Obj:=ot #[vr 39]::(r5 P 333 "Taken" 26 346 137<|r17 [(28,136)]<|r4 "Taken" 328 26 125 z2<|on 338 [""]::(r2<|r11 342 ["self","words"]<|r10 "Taken.__init__" 7 339 28 2 130 344 z2<|ot #[]::(r3 P 326 26 346 137 "Taken" 123<|r6 140<|ot #[vr 39]::(r5 P 358 "Full" 30 371 157<|r17 [(32,156)]<|r4 "Full" 353 30 145 z2<|on 363 [""]::(r2<|r11 367 ["self","words"]<|r10 "Full.__init__" 8 364 32 2 150 369 z2<|ot #[]::(r3 P 351 30 371 157 "Full" 143<|r6 160<|t))))))
noncomputable def CQ (P:Params) (t:List Obj):List Obj:=ot #[vr 39]::(r5 P 383 "BadValue" 34 395 176<|r17 [(36,175)]<|r4 "BadValue" 378 34 165 z2<|r2<|r11 391 ["self","at"]<|r12 "__init__" "BadValue.__init__" 9 0 388 36 2 170 393 z2<|on 396 ["at"]::(r3 P 376 34 395 176 "BadValue" 163<|r6 179<|r16 409 ["text"] "is_name" 14 43 1 182 413 z3<|r16 416 ["text"] "need_name" 15 45 1 189 420 z3<|r16 423 ["fields","seen","name","low","high"] "need_fields" 16 48 1 196 431 z3<|t))
noncomputable def BX (P:Params) (t:List Obj):List Obj:=r2<|r14 "bounds_text" 17 434 57 1 203 z3<|ot #[]::{cls:=vt "builtin_function_or_method",data:=Data.fields #[Value.builtin "type.__prepare__",vt "type"]}::od 13 [de P "__module__" 447 z3,de P "__qualname__" 449 (vs "Kind" 448),de P "__firstlineno__" 451 (vi 59 450),dr P "__init__" 460 223,dr P "lowest" 467 230,dr P "cells" 474 237,dr P "place_of" 486 244,dr P "need" 499 251,dr P "__eq__" 507 258,dr P "__len__" 514 265,dr P "__str__" 521 272,dr P "__repr__" 528 279,dr P "__static_attributes__" 531 280]::(r17 [(61,222),(69,229),(72,236),(75,243),(81,250),(88,257),(91,264),(94,271),(97,278)]<|r4 "Kind" 442 59 210 z3<|ot #[]::ot #[vr 215]::(r2<|r11 455 ["self","name","fields"]<|r10 "Kind.__init__" 18 452 61 3 216 458 z3<|r2<|r11 464 ["self"]<|r12 "lowest" "Kind.lowest" 18 1 461 69 1 224 465 z3<|r2<|r11 471 ["self"]<|r12 "cells" "Kind.cells" 18 2 468 72 1 231 472 z3<|r2<|r11 478 ["self","field","at","name","low","high"]<|t))
noncomputable def Be (P:Params) (t:List Obj):List Obj:=r12 "place_of" "Kind.place_of" 18 3 475 75 2 238 484 z3<|r2<|r11 490 ["self","values","at","name","low","high","value"]<|r12 "need" "Kind.need" 18 4 487 81 2 245 497 z3<|r2<|r11 503 ["self","other"]<|r12 "__eq__" "Kind.__eq__" 18 5 500 88 2 252 505 z3<|r2<|r11 511 ["self"]<|r12 "__len__" "Kind.__len__" 18 6 508 91 1 259 512 z3<|r2<|r11 518 ["self"]<|r12 "__str__" "Kind.__str__" 18 7 515 94 1 266 519 z3<|r2<|r11 525 ["self"]<|r12 "__repr__" "Kind.__repr__" 18 8 522 97 1 273 526 z3<|on 529 ["fields","name"]::od 5 [de P "__module__" 447 z3,de P "__firstlineno__" 451 (vi 59 450),dr P "__init__" 460 223,dr P "lowest" 467 230,dr P "cells" 474 237,dr P "place_of" 486 244,dr P "need" 499 251,dr P "__eq__" 507 258,dr P "__len__" 514 265,dr P "__str__" 521 272,dr P "__repr__" 528 279,dr P "__static_attributes__" 531 280,dr P "__dict__" 533 283,dr P "__weakref__" 535 284,dn P "__doc__" 536,dn P "__hash__" 537]::t
noncomputable def Cr (P:Params) (t:List Obj):List Obj:={cls:=vt "type",data:=Data.cls {name:=u "Kind",bases:=[vt "object"],mro:=[vr 282,vt "object"],ns:=281,qualname:=u "Kind"},slots:=#[none,none,some (vs "Kind" 440),some (vs "Kind" 448),some (Value.builtin "object.__new__"),some (vb)]}::{cls:=vt "getset_descriptor",data:=Data.fields #[vs "__dict__" 532,vr 282,Value.builtin "function.__dict__",Value.builtin "function.__dict__#set"]}::(r15 534 282<|t)
noncomputable def Hw (P:Params) (t:List Obj):List Obj:=od 3 [de P "not" 546 (vi 1 547),de P "and" 548 (vi 2 549),de P "or" 550 (vi 2 551)]::od 2 [de P "less" 556 (vs "<" 557),de P "same" 558 (vs "=" 559)]::(r16 563 ["thing"] "is_word" 24 104 1 289 567 z5<|r16 570 ["thing"] "is_number" 25 106 1 296 574 z5<|r16 577 ["test","form"] "is_leaf" 26 108 1 303 582 z5<|r2<|r14 "count_parts" 27 585 115 2 310 z5<|r16 591 ["test"] "is_test" 28 124 1 315 595 z5<|t)
noncomputable def Fo (P:Params) (t:List Obj):List Obj:=r16 598 ["test"] "need_test" 29 126 1 322 602 z5<|r16 605 ["leaf","kind","values","form","place"] "passes_leaf" 30 129 3 329 613 z5<|r2<|r14 "is_way" 35 624 143 1 336 z4<|r16 630 ["row","at","many","leaf","yes","no"] "is_row" 36 150 3 341 639 z4<|r16 642 ["leaf"] "can_be_asked" 37 153 1 348 646 z4<|r16 649 ["goal","at","many"] "leads_on" 38 155 3 355 655 z4<|t
noncomputable def FJ (P:Params) (t:List Obj):List Obj:=r16 658 ["way"] "need_way" 39 157 1 362 662 z4<|r16 665 ["test","laid"] "made" 40 160 1 369 670 z4<|r16 673 ["test","yes","no","laid","form"] "lay_test" 41 164 4 376 681 z4<|r16 684 ["leaf","yes","no","laid","row"] "lay_row" 42 175 4 383 692 z4<|r2<|r14 "way_from" 43 695 182 2 390 z4<|r16 701 ["way","kind","values","told","many"] "run" 44 196 3 395 709 z4<|t
noncomputable def EY (P:Params) (t:List Obj):List Obj:=r16 712 ["way","kind","values","told","many"] "steps" 45 199 3 402 720 z4<|r16 723 ["way","kind","values","goal","rows","many","leaf","yes","no"] "walk" 46 202 3 409 735 z4<|r16 738 ["way","start","rows","laid","goals","at","leaf","yes","no"] "shorter" 47 212 1 416 750 z4<|r16 753 ["end","goals"] "goal_of" 48 221 2 423 758 z4<|r16 763 ["_law_script","_law_seed","_law_cell"] "_law_begin" 50 226 1 430 769 z1<|t
noncomputable def Gw (P:Params) (t:List Obj):List Obj:=r16 772 ["_law_d","_law_many","_law_cell","_law_digit","_law_one"] "_law_pick" 51 231 2 437 780 z1<|r16 783 ["_law_d","_law_things"] "_law_of" 52 246 2 444 788 z1<|r16 791 ["_law_d","_law_number_here"] "_law_far" 53 248 1 451 796 z1<|r2<|r14 "_law_same" 54 799 251 2 458 z1<|r2<|r14 "_law_word" 55 805 261 1 463 z1<|r16 811 ["_law_d","_law_many","_law_found","_law_k","_law_word_here","_law_step"] "_law_words" 56 267 2 468 820 z1<|t
noncomputable def Jq (P:Params) (t:List Obj):List Obj:=r16 823 ["_law_d","_law_near"] "_law_bound" 57 276 1 475 828 z1<|r16 831 ["_law_d","_law_many","_law_names","_law_found","_law_title","_law_low","_law_high"] "_law_fields" 58 279 2 482 841 z1<|r16 844 ["_law_d","_law_field","_law_title","_law_low","_law_high"] "_law_value" 59 287 2 489 852 z1<|r2<|r14 "_law_is_name" 60 855 290 1 496 z1<|r16 861 ["_law_d","_law_text","_law_odd"] "_law_odd_name" 61 292 2 501 867 z1<|r16 870 ["_law_d"] "_law_number" 62 295 1 508 874 z1<|t
noncomputable def J0 (P:Params) (t:List Obj):List Obj:=r16 877 ["_law_d","_law_names","_law_kinds","_law_way"] "_law_leaf" 63 297 3 515 884 z1<|r16 887 ["_law_d","_law_deep_here","_law_names","_law_kinds","_law_way","_law_word_here"] "_law_tree" 64 304 4 522 896 z1<|r2<|r14 "_law_parts" 65 899 312 1 529 z1<|r2<|r14 "_law_deep" 66 905 316 1 534 z1<|r16 911 ["_law_d","_law_names","_law_kinds","_law_test_here"] "_law_test" 67 320 3 539 918 z1<|r16 921 ["_law_test_here"] "_law_leaf_ok" 68 323 1 546 925 z1<|t
noncomputable def JD (P:Params) (t:List Obj):List Obj:=r16 928 ["_law_test_here"] "_law_shape_ok" 69 333 1 553 932 z1<|r16 935 ["_law_test_here"] "_law_test_ok" 70 341 1 560 939 z1<|r16 942 ["_law_d","_law_test_here","_law_way","_law_at"] "_law_bent_test" 71 343 2 567 949 z1<|r2<|r14 "_law_passes" 72 952 369 4 574 z1<|r16 958 ["_law_d","_law_fields_here"] "_law_kind_of" 73 383 1 579 963 z1<|r2<|r14 "_law_names_of" 74 966 386 2 586 z1<|r2<|t
noncomputable def Lj (P:Params) (t:List Obj):List Obj:=r14 "_law_near_values" 75 972 388 3 591 z1<|r16 978 ["_law_test_here","_law_found","_law_part"] "_law_leaves_any" 76 398 1 596 984 z1<|r16 987 ["_law_jump"] "_law_ended" 77 404 1 603 991 z1<|r16 994 ["_law_way","_law_start","_law_rows","_law_at","_law_leaf_here","_law_yes","_law_no","_law_jump"] "_law_way_ok" 78 406 1 610 1005 z1<|r16 1008 ["_law_d","_law_way","_law_start","_law_rows","_law_at","_law_leaf_here","_law_yes","_law_no","_law_jump"] "_law_bent_way" 79 420 2 617 1020 z1<|r16 1023 ["_law_way","_law_title","_law_fields_here","_law_values","_law_jump","_law_rows","_law_many","_law_step","_law_leaf_here","_law_yes","_law_no"] "_law_walked" 80 447 4 624 1037 z1<|t
noncomputable def Pj (P:Params) (t:List Obj):List Obj:=ug P k2 (k3 P) K1 t
noncomputable def Ot (P:Params) (t:List Obj):List Obj:=xW P Ml t
noncomputable def fe (P:Params) (t:List Obj):List Obj:=ot #[]::ot #[]::on 1043 ["_law_d","_law_title","_law_fields_here","_law_names","_law_test_here"]::ot #[]::ot #[]::ok "_law_some_way" 1040 1041 1042 456 3 631 632 (vr 633) (vr 634) (vr 635) 1048 1049::ft "_law_some_way" 81 vn z1 (vr 636)::ot #[]::ot #[]::on 1054 ["_law_way"]::ot #[]::ot #[]::ok "_law_kept_way" 1051 1052 1053 460 1 638 639 (vr 640) (vr 641) (vr 642) 1055 1056::ft "_law_kept_way" 82 vn z1 (vr 643)::ot #[]::ot #[]::ot #[]::ok "_law_lean" 1058 1059 1060 462 1 645 646 vn vn (vr 647) 1061 1062::ft "_law_lean" 83 vn z1 (vr 648)::ot #[]::ot #[]::on 1067 ["_law_script","_law_d","_law_turn","_law_title","_law_fields_here","_law_way","_law_bent","_law_short","_law_sort","_law_step","_law_test_here","_law_values"]::ot #[]::ot #[]::ok "law" 1064 1065 1066 474 1 650 651 (vr 652) (vr 653) (vr 654) 1079 1080::ft "law" 84 vn z1 (vr 655)::t
noncomputable def nt (k:Nat):List Obj->Obj:=Nat.rec (fun l=>List.rec (ot #[]) (fun o _ _=>o) l) (fun _ ih l=>List.rec (ot #[]) (fun _ t _=>ih t) l) k
local macro_rules|`(#v[$xs,*])=>do
 let mut t ← `([])
 for x in xs.getElems.reverse do
  let `($f:ident $as*):=x|Lean.Macro.throwUnsupported
  let n:=as.map fun a=>a.raw.isNatLit?.getD 0
  let mut l:=#[]
  let mut p:=0
  for i in [1:n.size] do
   if i%2==0 then for j in [0:n[i]!] do l:=l.push (p+j)
   p:=p+n[i]!
  for k in l.reverse do t ← `((nat_lit $(Lean.Syntax.mkNumLit (toString (n[0]!+k))),nt $(Lean.Syntax.mkNumLit (toString k)) ($f P []))::$t)
 `(fun P=>$t)
noncomputable def KK:Params->Frag:=#v[Pj 0 2 2,Ot 15 0 1 1 2 1 3 6 2 1 2 1 6 2 1 6 2 1 2,zQ 55 1 5 2 1 6 2 1 2 1 5 2 1 6 2 1 2,Am 95 1 5 2 1 6 2 1 2 1 5,Cq 123 0 1 6 2 1 2 1 5 2 1 6 2 1 2 1 5,CQ 163 0 1 6 1 1 2 1 5 2 1 1 2 1 3 1 2 1 3 1 2 1 2,BX 203 0 1 2 2 7 3 1 2 1 3 1 2 1 3 1 2 1 3 1 2,Be 242 1 3 1 2 1 3 1 2 1 3 1 2 1 3 1 2 1 3 1 2 1 4,Cr 282 0 3,Hw 287 0 3 1 2 1 3 1 2 1 3 1 2 1 3 2 3 1 2 1 2,Fo 322 0 1 1 2 1 3 1 2 1 3 2 3 1 2 1 3 1 2 1 3 1 2 1 2,FJ 362 0 1 1 2 1 3 1 2 1 3 1 2 1 3 1 2 1 3 2 3 1 2 1 2,EY 402 0 1 1 2 1 3 1 2 1 3 1 2 1 3 1 2 1 3 1 2 1 2,Gw 437 0 1 1 2 1 3 1 2 1 3 1 2 1 3 2 3 2 3 1 2 1 2,Jq 475 0 1 1 2 1 3 1 2 1 3 1 2 1 3 2 3 1 2 1 3 1 2 1 2,J0 515 0 1 1 2 1 3 1 2 1 3 2 3 2 3 1 2 1 3 1 2 1 2,JD 553 0 1 1 2 1 3 1 2 1 3 1 2 1 3 2 3 1 2 1 3 2 3,Lj 593 1 3 1 2 1 3 1 2 1 3 1 2 1 3 1 2 1 3 1 2 1 2,fe 631 0 1 1 2 1 3 1 2 1 3 2 3 1 2 1 2]
noncomputable def O9:List Addr:=(KK {strHash:=fun _=>0,shareClass:=fun _=>0,mergeTok:=fun x=>x,idOf:=fun _=>0,idOfShared:=fun _ _=>0,followText:=fun _=>true,idOfImm:=fun _=>0}).map (·.1)
theorem eK:∀ P,O9=(KK P).map (·.1):=fun P=>by kernel_rfl
noncomputable def vw:Program:={ PySem.Challenge.pw_lanescribe_k11_whole_shorter_ways_tell_t with main:={ PySem.Challenge.pw_lanescribe_k11_whole_shorter_ways_tell_t.main with body:=[tp 0,tp 2,tp 3,tp 4,tp 5,tp 6,tp 7,tp 8,tp 9,tp 11,tp 12,tp 13,tp 14,tp 15,tp 16,tp 17,tp 18,tp 20,tp 21,tp 22,tp 23,tp 24,tp 25,tp 26,tp 27,tp 28,tp 29,tp 30,tp 32,tp 33,tp 34,tp 35,tp 36,tp 37,tp 38,tp 39,tp 40,tp 41,tp 42,tp 43,tp 44,tp 45,tp 46,tp 47,tp 48,tp 50,tp 51,tp 52,tp 53,tp 54,tp 55,tp 56,tp 57,tp 58,tp 59,tp 60,tp 61,tp 62,tp 63,tp 64,tp 65,tp 66,tp 67,tp 68,tp 69,tp 70,tp 71,tp 72,tp 73,tp 74,tp 75,tp 76,tp 77,tp 78,tp 79,tp 80,tp 81,tp 82,tp 83,tp 84] } }
noncomputable def ls:List Str:=[u "ScribeError",u "BadName",u "BadBounds",u "BadTest",u "BadWay",u "Taken",u "Full",u "Kind",u "WITHIN",u "SIGN_OF"]
noncomputable def lv:List (Str×WData):=[]
noncomputable abbrev Xt:Shared->Bool:=fun s=>xlAt vw lv s && recOk (RowW.records (OpenRow.toRowW PySem.Challenge.rw_lanescribe_k11_whole_shorter_ways_tell_t.row)) s
noncomputable abbrev hk:Hook:=kHook KK O9 eK
theorem said:PySem.Challenge.rw_lanescribe_k11_whole_shorter_ways_tell_t.wellSaid=true:=by kernel_rfl
theorem openP:opening (OpenRow.toRowW PySem.Challenge.rw_lanescribe_k11_whole_shorter_ways_tell_t.row).prog=plainProg (OpenRow.toRowW PySem.Challenge.rw_lanescribe_k11_whole_shorter_ways_tell_t.row).prog.main.scope.names:=by kernel_rfl
theorem yN {p:Program} {w:World} {N L:Nat} {s0 s':Shared} {t':Thread} {m0:Nat} {ann:Option Value} {β:Type} {F:Shared->β} {X:β} (h1:(s0.heap.isNs mainGlobals && s0.gens.size == 0)=true) (h2:s0.heap.objs.size=m0) (h3:s0.heap.nsMap mainGlobals "__annotations__" = ann)
 (chain:∀ r,topRun treeTable p w m0 ann L s' t'=some r->topRun treeTable p w m0 ann N s0 (topStub p)=some r)
 (last:((topRun treeTable p w m0 ann L s' t').bind fun s₁=>match staticsOk (importedModules p.main.body) s0.heap s₁.heap && namesBound p s₁.heap && gensDone s₁ && laidKept s0.heap s₁.heap with
  |true=>some s₁
  |false=>none).map F=some X):(topFrom treeTable p w N s0).map F=some X:=by
 cases hA:topRun treeTable p w m0 ann L s' t' with
 |none=>rw [hA] at last;cases last
 | some r=>
   have e:=chain r hA
   unfold topFrom
   rw [h1,h2,h3,e]
   rw [hA] at last
   exact last
noncomputable abbrev pp:Program:=(OpenRow.toRowW PySem.Challenge.rw_lanescribe_k11_whole_shorter_ways_tell_t.row).prog
noncomputable def env:Env:={ scope:=pp.main.scope,locals:=mainNs,globals:=mainNs,cells:=[],code:=vr 13,frame:=some 14 }
noncomputable abbrev cd:Code:=.body (behindTheImports pp) env
noncomputable abbrev fp:Pos:={ line:=0,col:=0,endLine:=0,endCol:=0 }
noncomputable abbrev an:Option Value:=some (vr 6)
noncomputable abbrev Ib (w:World) (os:OsState):Shared:=⟨boot_heap w.params,Array.mk [],boot_drawn,boot_toks,os⟩
noncomputable def Qm (P:Params):Heap:=⟨⟨ug P (boot_o_2 P) (boot_o_3 P) o1<|[]⟩,{ }⟩
noncomputable abbrev PK (w:World) (os:OsState):Shared:=⟨Qm w.params,Array.mk [],{ },187,os⟩
noncomputable abbrev Pz:Pos:={ line:=0,col:=0,endLine:=0,endCol:=0 }
noncomputable def Qo (P:Params):Heap:=⟨⟨ug P (boot_o_2 P) (boot_o_3 P) o1<|[]⟩,{ }⟩
noncomputable abbrev O1 (w:World) (os:OsState):Shared:=⟨Qo w.params,Array.mk [],{ },187,os⟩
noncomputable abbrev O_:Pos:={ line:=0,col:=0,endLine:=0,endCol:=0 }
theorem Q3 (w:World) (os:OsState):topGo treeTable pp w 11 an 12 (Ib w os) (topStub pp)=some (PK w os,⟨denote treeTable cd,cd,Pz,[topFrame fp]⟩):=by (revert w os;refine (byRow2 "special-get-raises" ?_ ?_:∀ w,_) <;> (intro w os;kernel_rfl))
theorem Qf (w:World) (os:OsState):segRun treeTable pp w 11 an 1 1 (PK w os) (blockOf (behindTheImports pp) env cd Pz [topFrame fp])=some (.next,O1 w os,cd,O_):=by (revert w os;refine (byRow2 "special-get-raises" ?_ ?_:∀ w,_) <;> (intro w os;kernel_rfl))
noncomputable def Oq (P:Params):Heap:=⟨⟨ug P (boot_o_2 P) (o4 P) o5<|xW P Qe<|zQ P<|Am P<|[]⟩,{ }⟩
noncomputable abbrev Ip (w:World) (os:OsState):Shared:=⟨Oq w.params,Array.mk [],{ },326,os⟩
noncomputable abbrev K8:Pos:={ line:=22,col:=0,endLine:=25,endCol:=51 }
noncomputable abbrev NK:List Stmt:=((behindTheImports pp).drop 0).take 7
theorem Qs (w:World) (os:OsState):segRun treeTable pp w 11 an 1 1245 (O1 w os) (piecesOf NK env cd O_ [topFrame fp])=some (.next,Ip w os,cd,K8):=by (revert w os;refine (byRow2 "special-get-raises" ?_ ?_:∀ w,_) <;> (intro w os;kernel_rfl))
noncomputable def JX (P:Params):Heap:=⟨⟨ug P (boot_o_2 P) (PN P) QF<|xW P Ml<|zQ P<|Am P<|Cq P<|CQ P<|BX P<|Be P<|Cr P<|[]⟩,{ }⟩
noncomputable abbrev Df (w:World) (os:OsState):Shared:=⟨JX w.params,Array.mk [],{ },540,os⟩
noncomputable abbrev Dw:Pos:={ line:=59,col:=0,endLine:=98,endCol:=54 }
noncomputable abbrev Ga:List Stmt:=((behindTheImports pp).drop 7).take 12
theorem N6 (w:World) (os:OsState):segRun treeTable pp w 11 an 1 1384 (Ip w os) (piecesOf Ga env cd K8 [topFrame fp])=some (.next,Df w os,cd,Dw):=by (revert w os;refine (byRow2 "special-get-raises" ?_ ?_:∀ w,_) <;> (intro w os;kernel_rfl))
noncomputable def Kr (P:Params):Heap:=⟨⟨ug P (boot_o_2 P) (N5 P) Oj<|xW P Ml<|zQ P<|Am P<|Cq P<|CQ P<|BX P<|Be P<|Cr P<|Hw P<|Fo P<|FJ P<|EY P<|Gw P<|[]⟩,{ }⟩
noncomputable abbrev Em (w:World) (os:OsState):Shared:=⟨Kr w.params,Array.mk [],{ },823,os⟩
noncomputable abbrev Dt:Pos:={ line:=267,col:=0,endLine:=275,endCol:=21 }
noncomputable abbrev Fg:List Stmt:=((behindTheImports pp).drop 19).take 38
theorem O8 (w:World) (os:OsState):segRun treeTable pp w 11 an 1 1024 (Df w os) (piecesOf Fg env cd Dw [topFrame fp])=some (.next,Em w os,cd,Dt):=by (revert w os;refine (byRow2 "special-get-raises" ?_ ?_:∀ w,_) <;> (intro w os;kernel_rfl))
noncomputable def Ku (P:Params):Heap:=⟨⟨ug P (boot_o_2 P) (Pq P) K1<|xW P Ml<|zQ P<|Am P<|Cq P<|CQ P<|BX P<|Be P<|Cr P<|Hw P<|Fo P<|FJ P<|EY P<|Gw P<|Jq P<|J0 P<|JD P<|Lj P<|[]⟩,{ }⟩
noncomputable abbrev zr (w:World) (os:OsState):Shared:=⟨Ku w.params,Array.mk [],{ },1040,os⟩
noncomputable abbrev za:Pos:={ line:=447,col:=0,endLine:=455,endCol:=33 }
noncomputable abbrev Gm:List Stmt:=((behindTheImports pp).drop 57).take 24
theorem Nq (w:World) (os:OsState):segRun treeTable pp w 11 an 1 734 (Em w os) (piecesOf Gm env cd Dt [topFrame fp])=some (.next,zr w os,cd,za):=by (revert w os;refine (byRow2 "special-get-raises" ?_ ?_:∀ w,_) <;> (intro w os;kernel_rfl))
noncomputable abbrev Mi:List Stmt:=(behindTheImports pp).drop 81
theorem Jz:behindTheImports pp=(NK++(Ga++(Fg++(Gm++Mi)))):=by kernel_rfl
noncomputable abbrev LS (w:World) (os:OsState):Prop:=((topRun treeTable pp w 11 an 629 (zr w os) (restOf Mi env cd za [topFrame fp])).bind fun s₁=>match staticsOk (importedModules pp.main.body) (Ib w os).heap s₁.heap && namesBound pp s₁.heap && gensDone s₁ && laidKept (Ib w os).heap s₁.heap with
 |true=>some s₁
 |false=>none).map (fun s=>(openSeen vw ls (importedModules pp.main.body) Xt true s,hk.obs s))=some (openGood vw ls,hk.val w)
noncomputable abbrev wf (w:World):World:=w.withFollow "special-get-raises" false
theorem J1 (w:World) (os:OsState):LS (wf w) os:=by kernel_rfl
noncomputable abbrev wt (w:World):World:=w.withFollow "special-get-raises" true
theorem Im (w:World) (os:OsState):LS (wt w) os:=by kernel_rfl
theorem last (w:World) (os:OsState):LS w os:=byRow2 "special-get-raises" (P:=fun w=>LS w os) (fun w=>J1 w os) (fun w=>Im w os) w
theorem chain (w:World) (os:OsState) (r:Shared) (h:topRun treeTable pp w 11 an 629 (zr w os) (restOf Mi env cd za [topFrame fp])=some r):topRun treeTable pp w 11 an 5029 (Ib w os) (topStub pp)=some r:=by
 have k:topRun treeTable pp w 11 an 5016 (O1 w os) (restOf (NK++(Ga++(Fg++(Gm++Mi)))) env cd O_ [topFrame fp])=some r:=piece_app (Qs w os) (piece_app (N6 w os) (piece_app (O8 w os) (piece_app (Nq w os) (h))))
 rw [← Jz] at k
 exact go_top (n:=12) (N:=5017) (Q3 w os) (piece_block (n:=1) (N:=5016) (Qf w os) k)
theorem run (w:World) (os:OsState):(topFrom treeTable pp w 5029 (Ib w os)).map (fun s=>(openSeen vw ls (importedModules pp.main.body) Xt true s,hk.obs s))=some (openGood vw ls,hk.val w):=yN (s0:=Ib w os) (by kernel_rfl) (by kernel_rfl) (by kernel_rfl) (chain w os) (last w os)
theorem left:LeftO (OpenRow.toRowW PySem.Challenge.rw_lanescribe_k11_whole_shorter_ways_tell_t.row).prog vw ls Xt hk.obs hk.val 5029:=vV openP (by decide) (fun s=>by kernel_rfl) run
theorem head (hw:(OpenRow.toRowW PySem.Challenge.rw_lanescribe_k11_whole_shorter_ways_tell_t.row).promised) {d:DefRec} {kwd:List (Str×Expr)} (hdef:defOf vw PySem.Challenge.rw_lanescribe_k11_whole_shorter_ways_tell_t.row.name=some (d,kwd)) (hp:PySem.Challenge.rw_lanescribe_k11_whole_shorter_ways_tell_t.row.prog.theDef PySem.Challenge.rw_lanescribe_k11_whole_shorter_ways_tell_t.row.name=some (d.params,d.body,d.scope)) (hk1:kwWritten? d.params.kwonlyargs d.params.kw_defaults=some kwd)
 (hc:WalkO vw ls (XL vw lv) (kHook KK O9 eK).says (OpenRow.toRowW PySem.Challenge.rw_lanescribe_k11_whole_shorter_ways_tell_t.row) d kwd fun f vs=>PySem.call f vs):PySem.Challenge.rw_lanescribe_k11_whole_shorter_ways_tell_t.Holds:=
 holds_law said fun said'=>holds_open (q:=vw) (loose:=ls) (Xt:=Xt) (XP:=XL vw lv) (Yf:=hk.obs) (Ya:=hk.val) (YP:=hk.says) (N:=5029) left hk.of hk.keeps (fun s e=>xl_of s (Bool.and_eq_true_iff.mp e).1) XL.keeps hdef hp hk1 (fun s e=>recFacts_of (Bool.and_eq_true_iff.mp e).2) (by rfl) said' (by decide +kernel) ⟨rfl,rfl,rfl,rfl,rfl,by decide +kernel⟩ hw hc
end
end Kd
local macro_rules|`(tactic|ext)=>`(tactic|first|exact ⟨rfl,rfl,rfl,by decide +kernel,rfl,by decide +kernel,by decide +kernel⟩|exact ⟨rfl,by decide +kernel,by decide +kernel,by decide +kernel,rfl,by decide +kernel⟩|exact Nat.le_of_ble_eq_true rfl|(intro _ _ _ _ h;repeat first|exact congrArg List.length h.1|obtain ⟨_,h⟩:=h)|decide +kernel)
namespace L2
open PySem PySem.Spec PyProof.Rows
noncomputable abbrev Key:=Sum Int Str
noncomputable def oZ:Key->Value->Bool
 |.inl k,v=>Value.isInt k v
 |.inr x,v=>Value.isStrOf x v
noncomputable def MJ (w:World):Key->Int
 |.inl k=>hashInt k
 |.inr x=>hashStr w x
theorem cV:∀ {k:Key} {v:Value},oZ k v=true->(∃ i t,k=Sum.inl i/\v=Value.int i t)∨(∃ x t,k=Sum.inr x/\v=Value.str x t)
 | .inl i,v,h=>by
   obtain ⟨t,e⟩:=Value.isInt_shape (k:=i) (v:=v) h
   exact .inl ⟨i,t,rfl,e⟩
 | .inr x,v,h=>by
   obtain ⟨t,e⟩:=Value.isStrOf_shape (x:=x) (v:=v) h
   exact .inr ⟨x,t,rfl,e⟩
theorem vW (i:Int) (t:Tok):oZ (.inl i) (.int i t)=true:=by simp [oZ,Value.isInt]
theorem xK (x:Str) (t:Tok):oZ (.inr x) (.str x t)=true:=by simp [oZ,Value.isStrOf]
theorem GQ (a b:Int):decide ((Sum.inl a:Key)=Sum.inl b)=(a == b):=by
 by_cases e:a=b
 ·subst e;simp
 ·have h:¬ (Sum.inl a:Key)=Sum.inl b:=fun q=>e (Sum.inl.inj q)
  rw [decide_eq_false h]
  exact (beq_eq_false_iff_ne.mpr e).symm
theorem FW (a b:Str):decide ((Sum.inr a:Key)=Sum.inr b)=decide (a=b):=by
 by_cases e:a=b
 ·subst e;simp
 ·have h:¬ (Sum.inr a:Key)=Sum.inr b:=fun q=>e (Sum.inr.inj q)
  rw [decide_eq_false h,decide_eq_false e]
theorem Hh (a:Int) (b:Str):decide ((Sum.inl a:Key)=Sum.inr b)=false:=decide_eq_false (fun q=>nomatch q)
theorem Hj (a:Str) (b:Int):decide ((Sum.inr a:Key)=Sum.inl b)=false:=decide_eq_false (fun q=>nomatch q)
noncomputable def du (prog:Program) (w:World):PySem.KeyKind prog w Key where
 is:=oZ
 hash:=MJ w
 inj:=fun v a b ha hb=>by
  rcases cV ha with ⟨i,t,rfl,rfl⟩|⟨x,t,rfl,rfl⟩
  ·rcases cV hb with ⟨j,u,rfl,e⟩|⟨y,u,rfl,e⟩
   ·injection e with e1 _;rw [e1]
   ·exact nomatch e
  ·rcases cV hb with ⟨j,u,rfl,e⟩|⟨y,u,rfl,e⟩
   ·exact nomatch e
   ·injection e with e1 _;rw [e1]
 byValue:=fun k v h=>by
  rcases cV h with ⟨i,t,rfl,rfl⟩|⟨x,t,rfl,rfl⟩ <;> rfl
 pyHash:=fun hv h=>by
  rcases cV hv with ⟨i,t,rfl,rfl⟩|⟨x,t,rfl,rfl⟩
  ·exact wpAny_pyHash_int h
  ·exact wpAny_pyHash_str h
 eqBool:=fun hu hv h=>by
  rcases cV hu with ⟨i,t,rfl,rfl⟩|⟨x,t,rfl,rfl⟩
  ·rcases cV hv with ⟨j,u,rfl,rfl⟩|⟨y,u,rfl,rfl⟩
   ·rw [GQ] at h;exact wpAny_eqBool_int h
   ·rw [Hh] at h;exact SeqAt.EqAt.int_str i t y u _ _ _ _ h
  ·rcases cV hv with ⟨j,u,rfl,rfl⟩|⟨y,u,rfl,rfl⟩
   ·rw [Hj] at h;exact SeqAt.EqAt.str_int x t j u _ _ _ _ h
   ·rw [FW] at h;exact wpAny_eqBool_str h
 «strs»:=fun k x t v h=>by
  rcases cV h with ⟨i,u,rfl,e⟩|⟨y,u,rfl,e⟩
  ·exact nomatch e
  ·injection e with e1 _
   subst e1
   cases v <;> rfl
theorem rT (prog:Program) (w:World) (i:Int) (t:Tok):(du prog w).is (.inl i) (.int i t)=true:=vW i t
theorem rn (prog:Program) (w:World) (x:Str) (t:Tok):(du prog w).is (.inr x) (.str x t)=true:=xK x t
inductive V where
 |non|bl (b:Bool)|int (i:Int)|str (x:Str)|byt (b:Array UInt8)|flt (b:UInt64)|ref (a:Addr)|ty (n:String)
 deriving DecidableEq
noncomputable def RelV:V->Value->Prop
 |.non,u=>u=Value.none
 |.bl b,u=>u=Value.bool b
 |.int i,u=>∃ t,u=Value.int i t
 |.str x,u=>∃ t,u=Value.str x t
 |.byt b,u=>∃ t,u=Value.bytes b t
 |.flt b,u=>∃ t,u=Value.float b t
 |.ref a,u=>u=Value.ref a
 |.ty n,u=>u=Value.type n
noncomputable abbrev Vals:List V->List Value->Prop:=Paired RelV
theorem Vals.length (r:Vals xs us):xs.length=us.length:=Paired.length r
theorem Vals.get:∀ {xs:List V} {us:List Value} {i:Nat} {x:V},Vals xs us->xs[i]?=some x->∃ u,us[i]?=some u/\RelV x u
 |_,_,_,_,.nil,e=>by simp at e
 |_,_,0,_,.cons r _,e=>by simp at e;subst e;exact ⟨_,rfl,r⟩
 | _,_,i+1,x,.cons _ t,e=>by
   obtain ⟨u,h1,h2⟩:=Vals.get (i:=i) (x:=x) t (by simpa using e)
   exact ⟨u,by simpa using h1,h2⟩
theorem Vals.set (r:RelV x u):∀ {xs:List V} {us:List Value} (i:Nat),Vals xs us->Vals (xs.set i x) (us.set i u)
 |_,_,_,.nil=>.nil
 |_,_,0,.cons _ t=>.cons r t
 |_,_,i+1,.cons q t=>.cons q (Vals.set r i t)
theorem Vals.append:∀ {xs ys:List V} {us ws:List Value},Vals xs us->Vals ys ws->Vals (xs++ys) (us++ws)
 |_,_,_,_,.nil,s=>s
 |_,_,_,_,.cons r t,s=>.cons r (Vals.append t s)
theorem Vals.take:∀ {xs:List V} {us:List Value} (n:Nat),Vals xs us->Vals (xs.take n) (us.take n)
 |_,_,0,_=>.nil
 |_,_,_+1,.nil=>.nil
 |_,_,n+1,.cons r t=>.cons r (Vals.take n t)
theorem Vals.drop:∀ {xs:List V} {us:List Value} (n:Nat),Vals xs us->Vals (xs.drop n) (us.drop n)
 |_,_,0,r=>r
 |_,_,_+1,.nil=>.nil
 |_,_,n+1,.cons _ t=>Vals.drop n t
noncomputable def jH:Option V->Option Value->Prop
 |some v,some u=>RelV v u
 |none,none=>True
 |_,_=>False
noncomputable def KV {κ:Type}:List (κ×V)->List (κ×Value)->Prop:=Paired fun (p:κ×V) (q:κ×Value)=>p.1=q.1/\RelV p.2 q.2
noncomputable def kV:Key->V
 |.inl i=>.int i
 |.inr x=>.str x
inductive HO where
 |lst (xs:List V)
 |tup (xs:List V)
 |dK (kvs:List (Key×V))|dT (kvs:List (List Key×V))
 |set (S:Int->Bool) (n:Nat)
 |ins (C dx:Addr) (fs:List (Str×V))
 |own (x:Addr)
 |xd (fs:List (Str×V))
 |met (f x:Addr)
 |rng (lo hi:Int)
 |frz (o:Obj) (u:HO)
 |tbl (ps:Array Value)
 |ext (φ:Heap->Prop)
noncomputable abbrev Hp:=Addr->Option HO
noncomputable def upd (H:Hp) (a:Addr) (o:HO):Hp:=fun b=>if b=a then some o else H b
theorem au:upd H a o a=some o:=by unfold upd;rw [if_pos rfl]
theorem aX (h:b≠a):upd H a o b=H b:=by unfold upd;rw [if_neg h]
theorem gw {H:Hp} (h:H a=some o) (h':H b=some u) (d:o≠u):a≠b:=by
 intro e;subst e;rw [h] at h';exact d (Option.some.inj h')
theorem aR {H:Hp} (h:H a=some o) (h':H b=none):a≠b:=by
 intro e;subst e;rw [h] at h';cases h'
section
variable (P:Program) (w:World)
noncomputable def dm (H:Hp) (h:Heap) (a:Addr):HO->Prop
 |.lst xs=>xs.length≤sizeLine/\∃ (its:List Value) (n:Nat),Vals xs its/\h.get? a=some { cls:=.type "list",data:=.seq its.toArray n }
 |.tup xs=>xs.length≤sizeLine/\∃ its:List Value,Vals xs its/\IsTup h a its.toArray
 |.dK kvs=>kvs.length≤sizeLine/\(a == sysModules)=false/\∃ vs,KV kvs vs/\h.DictOf (du P w) a vs
 |.dT kvs=>kvs.length≤sizeLine/\(a == sysModules)=false/\∃ xs:List (List Key×Addr×Value),
  Paired (fun (p:List Key×V) (q:List Key×Addr×Value)=>p.1=q.1/\H q.2.1=some (.tup (p.1.map kV))/\RelV p.2 q.2.2) kvs xs/\
  ∃ o es ep,h.get? a=some o/\o.ExactDict/\o.data=.dict es ep/\es.toList=xs.map (entryOfKey (tupleKind (du P w)))/\(xs.map (·.1)).Nodup
 |.set S n=>h.SetOf (intKind P w) a S n
 |.ins C dx fs=>H dx=some (.own a)/\fs.length≤1000/\dx≠a/\h.get? a=some (PySem.W.instObj C dx)/\
  ∃ mA,h.Ns1 dx mA/\(∀ f,jH (fs.lookup f) (mA f))/\PySem.Within mA (fs.map (·.1))
 |.own _=>∃ o,h.get? a=some o
 |.xd fs=>∃ mA,h.Ns1 a mA/\∀ f,jH (fs.lookup f) (mA f)
 |.rng lo hi=>∃ t u v,h.get? a=some { cls:=.type "range",data:=.fields #[.int lo t,.int hi u,.int 1 v] }
 |.frz o u=>h.get? a=some o/\dm H h a u
 |.tbl ps=>h.get? a=some { cls:=.none,data:=.fields ps }
 |.met f x=>h.get? a=some (PySem.W.methodObj (.ref f) (.ref x))
 |.ext φ=>φ h/\(∃ o,h.get? a=some o)/\∀ h1 h2:Heap,φ h1->(∀ o,h1.get? a=some o->h2.get? a=some o)->φ h2
noncomputable def jW (H:Hp) (h:Heap):Prop:=∀ a o,H a=some o->dm P w H h a o
end
theorem dm.lt (x:dm P w H h a o):a<h.objs.size:=by
 cases o with
 |lst xs=>obtain ⟨_,_,_,_,e⟩:=x;exact Heap.lt_size e
 |tup xs=>obtain ⟨_,_,_,p⟩:=x;exact p.lt
 |dK kvs=>obtain ⟨_,_,_,_,o,_,_,e,_⟩:=x;exact Heap.lt_size e
 |dT kvs=>obtain ⟨_,_,_,_,o,_,_,e,_⟩:=x;exact Heap.lt_size e
 |set S n=>obtain ⟨o,_,_,_,e,_⟩:=x;exact Heap.lt_size e
 |ins C dx fs=>obtain ⟨_,_,_,e,_⟩:=x;exact Heap.lt_size e
 |own y=>obtain ⟨_,e⟩:=x;exact Heap.lt_size e
 |xd fs=>obtain ⟨_,⟨_,_,_,e,_⟩,_⟩:=x;exact Heap.lt_size e
 |rng lo hi=>obtain ⟨_,_,_,e⟩:=x;exact Heap.lt_size e
 |frz ob u=>obtain ⟨e,_⟩:=x;exact Heap.lt_size e
 |tbl ps=>exact Heap.lt_size (show h.get? a=some _ from x)
 |met f y=>exact Heap.lt_size (show h.get? a=some _ from x)
 |ext φ=>obtain ⟨_,⟨_,e⟩,_⟩:=x;exact Heap.lt_size e
theorem Paired.mapP {α β:Type} {F G:α->β->Prop}:∀ {l₁:List α} {l₂:List β},Paired F l₁ l₂->(∀ a b,F a b->G a b)->Paired G l₁ l₂
 |_,_,.nil,_=>.nil
 |_,_,.cons r t,f=>.cons (f _ _ r) (Paired.mapP t f)
theorem dm.stay {H H':Hp} {h h':Heap} (x:dm P w H h a o) (k:∀ b u,(b=a∨H b=some (.own a))->h.get? b=some u->h'.get? b=some u)
 (ho:∀ b,H b=some (.own a)->H' b=some (.own a)) (ht:∀ b xs,H b=some (.tup xs)->H' b=some (.tup xs)):dm P w H' h' a o:=by
 induction o with
 |lst xs=>obtain ⟨z,its,n,r,e⟩:=x;exact ⟨z,its,n,r,k _ _ (.inl rfl) e⟩
 |tup xs=>obtain ⟨z,its,r,ob,e,c⟩:=x;exact ⟨z,its,r,ob,k _ _ (.inl rfl) e,c⟩
 |dK kvs=>obtain ⟨z,y,vs,r,ob,es,ep,e,c⟩:=x;exact ⟨z,y,vs,r,ob,es,ep,k _ _ (.inl rfl) e,c⟩
 | dT kvs=>
   obtain ⟨z,y,xs,r,ob,es,ep,e,c⟩:=x
   exact ⟨z,y,xs,Paired.mapP r fun p q z=>⟨z.1,ht _ _ z.2.1,z.2.2⟩,ob,es,ep,k _ _ (.inl rfl) e,c⟩
 |set S n=>obtain ⟨ob,es,ep,t,e,c⟩:=x;exact ⟨ob,es,ep,t,k _ _ (.inl rfl) e,c⟩
 | ins C dx fs=>
   obtain ⟨d,z,ne,e,mA,⟨od,es,ep,e2,c⟩,r⟩:=x
   exact ⟨ho _ d,z,ne,k _ _ (.inl rfl) e,mA,⟨od,es,ep,k _ _ (.inr d) e2,c⟩,r⟩
 |own y=>obtain ⟨ob,e⟩:=x;exact ⟨ob,k _ _ (.inl rfl) e⟩
 |xd fs=>obtain ⟨mA,⟨od,es,ep,e,c⟩,r⟩:=x;exact ⟨mA,⟨od,es,ep,k _ _ (.inl rfl) e,c⟩,r⟩
 |rng lo hi=>obtain ⟨t,u,v,e⟩:=x;exact ⟨t,u,v,k _ _ (.inl rfl) e⟩
 |frz ob u ih=>obtain ⟨e,q⟩:=x;exact ⟨k _ _ (.inl rfl) e,ih q⟩
 | tbl ps=>
   have e:h.get? a=some { cls:=.none,data:=.fields ps }:=x
   show h'.get? a=some { cls:=.none,data:=.fields ps }
   exact k a _ (.inl rfl) e
 | met f y=>
   have e:h.get? a=some (PySem.W.methodObj (.ref f) (.ref y)):=x
   show h'.get? a=some (PySem.W.methodObj (.ref f) (.ref y))
   exact k a _ (.inl rfl) e
 |ext φ=>obtain ⟨p,⟨o,e⟩,st⟩:=x;exact ⟨st _ _ p fun o q=>k _ _ (.inl rfl) q,⟨o,k _ _ (.inl rfl) e⟩,st⟩
theorem jW.lt (x:jW P w H h) (e:H a=some o):a<h.objs.size:=(x a o e).lt
theorem jW.fresh (x:jW P w H h) (e:h.objs.size≤a):H a=none:=by
 cases q:H a with
 |none=>rfl
 |some u=>exact absurd (Nat.lt_of_lt_of_le (x.lt q) e) (Nat.lt_irrefl _)
theorem jW.kept (x:jW P w H h) (k:∀ b u,h.get? b=some u->h'.get? b=some u):jW P w H h':=fun a o e=>
 (x a o e).stay (fun b u _ q=>k b u q) (fun _ q=>q) fun _ _ q=>q
theorem jW.laid {h h':Heap} (x:jW P w H h) (k:∀ b u,h.get? b=some u->h'.get? b=some u) (hp:h.objs.size≤a) (new:dm P w (upd H a o) h' a o):jW P w (upd H a o) h':=fun b u e=>by
 have hn:=x.fresh hp
 by_cases hb:b=a
 ·subst hb;rw [au] at e;cases e;exact new
 ·rw [aX hb] at e
  exact (x b u e).stay (fun c v _ q=>k c v q) (fun c q=>by rw [aX (aR q hn)];exact q) fun c xs q=>by rw [aX (aR q hn)];exact q
noncomputable def Rd (H:Hp) (a:Addr) (u:HO):Prop:=H a=some u∨∃ o,H a=some (.frz o u)
theorem Rd.ok (r:Rd H a u) (x:jW P w H h):dm P w H h a u:=by
 rcases r with r|⟨o,r⟩
 ·exact x a u r
 ·obtain ⟨_,q⟩:=x a _ r
  exact q
noncomputable def Kq:Option HO->Prop
 |some (.lst _)=>True
 |some (.dK _)=>True
 |some (.dT _)=>True
 |some (.set _ _)=>True
 |some (.ins _ _ _)=>True
 |some (.ext _)=>True
 |_=>False
theorem jW.write (ok:jW P w H h) (mu:Kq (H x)) (he:e=x∨H e=some (.own x)) (k:∀ b u,b≠e->h.get? b=some u->h'.get? b=some u) (heo:∃ u,h'.get? e=some u)
 (new:dm P w (upd H x o') h' x o'):jW P w (upd H x o') h':=fun b u q=>by
 have nown:∀ c y,H c=some (.own y)->c≠x:=fun c y r z=>by subst z;rw [r] at mu;exact mu
 have ntup:∀ c xs,H c=some (.tup xs)->c≠x:=fun c xs r z=>by subst z;rw [r] at mu;exact mu
 by_cases hb:b=x
 ·subst hb;rw [au] at q;cases q;exact new
 ·rw [aX hb] at q
  by_cases hbe:b=e
  ·have q':H b=some (.own x):=by
    rcases he with z|z
    ·exact absurd (hbe.trans z) hb
    ·rw [hbe];exact z
   rw [q] at q';cases q'
   obtain ⟨v,hv⟩:=heo
   exact ⟨v,by rw [hbe];exact hv⟩
  ·refine (ok b u q).stay (fun c v hc r=>k c v ?_ r) (fun c r=>by rw [aX (nown c b r)];exact r) fun c xs r=>by rw [aX (ntup c xs r)];exact r
   rcases hc with rfl|hc
   ·exact hbe
   ·rintro rfl
    rcases he with z|z
    ·exact nown c b hc z
    ·rw [hc] at z;cases z;exact hb rfl
structure Un (fs ex:List Addr) (H H':Hp) (h h':Heap):Prop where
 keep:∀ b o,h.get? b=some o->H b=none->b∉fs->b∉ex->h'.get? b=some o
 slot:∀ b o,h.get? b=some o->H b=none->b∈fs->b∉ex->∃ sl,h'.get? b=some { o with slots:=sl }
 free:∀ b o,h.get? b=some o->H b=none->b∉ex->H' b=none
 there:∀ b o,h.get? b=some o->b∉ex->∃ o',h'.get? b=some o'
 tups:∀ b xs,H b=some (.tup xs)->H' b=some (.tup xs)
 frzs:∀ b o u,H b=some (.frz o u)->H' b=some (.frz o u)
 tbls:∀ b ps,H b=some (.tbl ps)->∃ more,H' b=some (.tbl (ps++more))
theorem Un.any (u:Un fs ex H H1 h h1) (q:h.get? b=some ob) (n:H b=none) (hx:b∉ex):∃ sl,h1.get? b=some { ob with slots:=sl }:=by
 by_cases hb:b∈fs
 ·exact u.slot b ob q n hb hx
 ·exact ⟨ob.slots,u.keep b ob q n hb hx⟩
theorem Un.kept (k:∀ b u,h.get? b=some u->h'.get? b=some u):Un fs ex H H h h':=
 ⟨fun b ob q _ _ _=>k b ob q,fun b ob q _ _ _=>⟨ob.slots,k b ob q⟩,fun _ _ _ n _=>n,fun b ob q _=>⟨ob,k b ob q⟩,fun _ _ q=>q,fun _ _ _ q=>q,fun _ ps q=>⟨#[],by rw [q];simp⟩⟩
theorem Un.refl:Un fs ex H H h h:=Un.kept fun _ _ q=>q
theorem Un.laid {H:Hp} {h h':Heap} (k:∀ b u,h.get? b=some u->h'.get? b=some u) (hp:h.objs.size≤a) (hn:H a=none):Un fs ex H (upd H a o) h h' where
 keep:=fun b u q _ _ _=>k b u q
 slot:=fun b u q _ _ _=>⟨u.slots,k b u q⟩
 free:=fun b u q n _=>by rw [aX (Nat.ne_of_lt (Nat.lt_of_lt_of_le (Heap.lt_size q) hp))];exact n
 there:=fun b u q _=>⟨u,k b u q⟩
 tups:=fun b xs q=>by rw [aX (aR q hn)];exact q
 frzs:=fun b u xs q=>by rw [aX (aR q hn)];exact q
 tbls:=fun b ps q=>⟨#[],by rw [aX (aR q hn),q];simp⟩
theorem Un.write (mu:Kq (H x)) (he:e=x∨H e=some (.own x)) (k:∀ b u,b≠e->h.get? b=some u->h'.get? b=some u) (heo:∃ u,h'.get? e=some u):Un fs ex H (upd H x o) h h':=by
 have hx:∀ b,H b=none->b≠x:=fun b n z=>by subst z;rw [n] at mu;exact mu
 have hb:∀ b,H b=none->b≠e:=fun b n z=>by
  subst z
  rcases he with r|r
  ·exact hx b n r
  ·rw [n] at r;cases r
 have hm:∀ b u,H b=some u->¬ Kq (some u)->b≠x:=fun b u q nm z=>by subst z;rw [q] at mu;exact nm mu
 refine ⟨fun b u q n _ _=>k b u (hb b n) q,fun b u q n _ _=>⟨u.slots,k b u (hb b n) q⟩,fun b u q n _=>by rw [aX (hx b n)];exact n,fun b u q _=>?_,
  fun b xs q=>by rw [aX (hm b _ q fun z=>z)];exact q,fun b u xs q=>by rw [aX (hm b _ q fun z=>z)];exact q,fun b ps q=>⟨#[],by rw [aX (hm b _ q fun z=>z),q];simp⟩⟩
 by_cases hbe:b=e
 ·subst hbe;exact heo
 ·exact ⟨u,k b u hbe q⟩
noncomputable def Mm (h:Heap) (H:Hp):List Addr:=(List.range h.objs.size).filter fun a=>(H a).isSome
noncomputable def qz (h:Heap) (H:Hp):Heap:=PySem.W.hideAll h (Mm h H)
theorem wy (h:Heap) (H:Hp):(qz h H).objs.size=h.objs.size:=PySem.W.hideAll_size _ _
theorem z_ (e:h.get? b=some o) (n:H b=none):(qz h H).get? b=some o:=
 PySem.W.hideAll_get _ e fun hm=>by
  have q:(H b).isSome=true:=(List.mem_filter.mp hm).2
  rw [n] at q;simp at q
theorem CP (e:(qz h H).get? b=some o):h.get? b=some o/\H b=none:=by
 have e':h.get? b=some o:=PySem.W.of_hideAll (Mm h H) e
 refine ⟨e',?_⟩
 cases q:H b with
 |none=>rfl
 | some x=>
   have hm:b∈Mm h H:=List.mem_filter.mpr ⟨List.mem_range.mpr (Heap.lt_size e'),by simp [q]⟩
   have z:(qz h H).get? b=none:=PySem.W.hideAll_none (Mm h H) hm
   rw [z] at e;cases e
structure Mod (K:PySem.W.Frag) (mg:Str->Option Value) (base:Heap):Prop where
 kin:K.In base
 glob:base.Ns mainGlobals mg
 blt:∃ mb,base.Ns builtinsNs mb/\∀ x:Str,x ≠ "__name__"->mb x=bootBuiltins x
 nolimit:base.NoLimit
structure Cx where
 prog:Program
 w:World
 K:PySem.W.Frag
 mg:Str->Option Value
 base:Heap
 A:Around
 N:List Str
 s₀:Shared
 H₀:Hp
 env:Env
 outer:List Env
 stack:List Env
 ex:List Addr
 fn:Str->Bool
 calm:Bool
 pn:List (Addr×Obj)
 xe:Value->Shared->Prop
noncomputable def frs (l:List Env):List Addr:=l.filterMap (·.frame)
noncomputable abbrev Cx.fs (X:Cx):List Addr:=frs X.outer
noncomputable def Jg (sc:Scope) (x:Str):Prop:=sc.names.lookup x=some .local∨sc.names.lookup x=some .cell∨sc.names.lookup x=some .free
noncomputable def Loc (sc:Scope) (x:Str):Prop:=sc.names.lookup x=some .local∨sc.names.lookup x=some .cell
noncomputable def Look (env:Env) (h:Heap) (m:Str->Option Value) (x:Str) (u:Value):Prop:=
 (env.kindOf x=some .local/\m x=some u)∨((env.kindOf x=some .cell∨env.kindOf x=some .free)/\∃ c,env.cells.lookup x=some c/\h.IsCell c (some u))
structure Cx.Ok (X:Cx):Prop where
 mod:Mod X.K X.mg X.base
 kind:X.env.scope.kind=.function
 glob:X.env.globals=mainGlobals
 blt:X.env.builtins=builtinsNs
 above:X.s₀.heap.objs.size≤X.env.locals
 inj:∀ x y c,X.env.cells.lookup x=some c->X.env.cells.lookup y=some c->x=y
 has:∀ x,(X.env.kindOf x=some .cell∨X.env.kindOf x=some .free)->∃ c,X.env.cells.lookup x=some c
 cab:∀ x c,X.fn x=true->X.env.cells.lookup x=some c->X.s₀.heap.objs.size≤c
 hd:X.calm=true->X.A.handled=none
 frames:X.A.frames=some X.stack
 stk:X.stack=X.outer∨(X.stack=X.env::X.outer/\X.env.frame=some X.env.locals)
 exf:∀ b∈X.ex,b≠X.env.locals/\∀ x c,X.env.cells.lookup x=some c->c≠b
 bs:∀ b o,X.base.get? b=some o->X.s₀.heap.get? b=some o/\X.H₀ b=none
 bsz:X.base.objs.size≤X.s₀.heap.objs.size
 noex:∀ b o,X.base.get? b=some o->b∉X.ex
 exfs:∀ b∈X.ex,b∉X.fs
 funs:X.s₀.heap.FunFrames X.base X.outer
 frf:∀ b∈X.fs,X.H₀ b=none
structure Inv (X:Cx) (aq:List (Addr×Obj)) (σ:List (Option V)) (H:Hp) (s:Shared):Prop where
 ok:X.Ok
 os:s.os=X.s₀.os
 bare:AllBare s.gens
 base:Un X.fs X.ex X.H₀ H X.s₀.heap s.heap
 loc:∃ m,s.heap.Ns X.env.locals m/\∀ (i:Nat) (x:Str) (v:V),X.N[i]?=some x->σ[i]?=some (some v)->Jg X.env.scope x->∃ u,RelV v u/\Look X.env s.heap m x u
 cell:∀ x c,X.env.cells.lookup x=some c->∃ v,s.heap.IsCell c v
 free:H X.env.locals=none
 freeC:∀ x c,X.env.cells.lookup x=some c->H c=none
 pin:∀ p∈X.pn++aq,s.heap.get? p.1=some p.2/\H p.1=none/\p.1≠X.env.locals/\p.1∉X.fs/\∀ v,p.2.data≠.cell v
 hok:jW X.prog X.w H s.heap
 len:σ.length=X.N.length
section
variable {X:Cx} {aq:List (Addr×Obj)} {σ:List (Option V)} {H H':Hp} {s:Shared} {h':Heap}
theorem Cx.Ok.nofr (ok:X.Ok) (e:X.base.get? b=some o):b∉X.fs:=fun hb=>by
 have:=(ok.funs.mem hb).1
 rw [e] at this;cases this
theorem Inv.bs (I:Inv X aq σ H s):∀ b o,X.base.get? b=some o->s.heap.get? b=some o/\H b=none:=fun b o e=>
 ⟨I.base.keep b o (I.ok.bs b o e).1 (I.ok.bs b o e).2 (I.ok.nofr e) (I.ok.noex b o e),I.base.free b o (I.ok.bs b o e).1 (I.ok.bs b o e).2 (I.ok.noex b o e)⟩
theorem Inv.bk (I:Inv X aq σ H s):∀ b o,X.base.get? b=some o->s.heap.get? b=some o:=fun b o e=>(I.bs b o e).1
theorem Inv.mod (I:Inv X aq σ H s):Mod X.K X.mg X.base:=I.ok.mod
theorem Inv.kIn (I:Inv X aq σ H s):X.K.In s.heap:=I.ok.mod.kin.keeps I.bk
theorem Inv.lt (I:Inv X aq σ H s):X.env.locals<s.heap.objs.size:=let ⟨_,hn,_⟩:=I.loc;hn.lt
theorem Inv.sz (I:Inv X aq σ H s):X.s₀.heap.objs.size≤s.heap.objs.size:=Nat.le_trans I.ok.above (Nat.le_of_lt I.lt)
theorem Inv.nofs (I:Inv X aq σ H s) (h:s.heap.objs.size≤a):a∉X.fs:=fun hb=>by
 obtain ⟨_,o,ho,_⟩:=I.ok.funs.mem hb
 exact absurd (Nat.lt_of_lt_of_le (Heap.lt_size ho) (Nat.le_trans I.sz h)) (Nat.lt_irrefl _)
theorem Inv.cne (I:Inv X aq σ H s):∀ x c,X.env.cells.lookup x=some c->c≠X.env.locals:=fun x c e z=>by
 obtain ⟨v,o,ho,hd⟩:=I.cell x c e
 obtain ⟨m,⟨o',es,ep,ho',hd',_⟩,_⟩:=I.loc
 rw [z,ho'] at ho;cases ho;rw [hd'] at hd;cases hd
theorem Inv.funs (I:Inv X aq σ H s):s.heap.FunFrames X.base X.outer:=by
 have all:∀ (l:List Env),(∀ b∈frs l,b∈X.fs)->X.s₀.heap.FunFrames X.base l->s.heap.FunFrames X.base l:=by
  intro l
  induction l with
  |nil=>intro _ _;trivial
  | cons env r ih=>
    intro hs hl
    obtain ⟨hk,⟨L,o,hf,hn,ho,hd⟩,hr⟩:=hl
    have hL:L∈X.fs:=hs L (by unfold frs;rw [List.filterMap_cons,hf];exact List.mem_cons_self)
    obtain ⟨sl,e⟩:=I.base.slot L o ho (I.ok.frf L hL) hL fun z=>I.ok.exfs L z hL
    exact ⟨hk,⟨L,_,hf,hn,e,hd⟩,ih (fun b hb=>hs b (by unfold frs;rw [List.filterMap_cons,hf];exact List.mem_cons_of_mem _ hb)) hr⟩
 exact all X.outer (fun _ hb=>hb) I.ok.funs
theorem Inv.stack (I:Inv X aq σ H s):s.heap.FunFrames X.base X.stack:=by
 rcases I.ok.stk with e|⟨e,hf⟩
 ·rw [e];exact I.funs
 ·rw [e]
  obtain ⟨m,hn,_⟩:=I.loc
  refine .cons (by rw [I.ok.kind];decide) hf hn ?_ I.funs
  exact Heap.get?_none_of_le (Nat.le_trans I.ok.bsz I.ok.above)
theorem Inv.stkSub (I:Inv X aq σ H s):∀ b∈frs X.stack,b∈X.env.locals::X.fs:=fun b hb=>by
 rcases I.ok.stk with e|⟨e,hf⟩
 ·rw [e] at hb;exact List.mem_cons_of_mem _ hb
 ·rw [e] at hb
  unfold frs at hb
  rw [List.filterMap_cons,hf] at hb
  exact hb
theorem Inv.stkFree (I:Inv X aq σ H s):∀ b∈frs X.stack,H b=none:=fun b hb=>by
 rcases List.mem_cons.mp (I.stkSub b hb) with e|hb
 ·rw [e];exact I.free
 ·obtain ⟨_,o,ho,_⟩:=I.ok.funs.mem hb
  exact I.base.free b o ho (I.ok.frf b hb) fun z=>I.ok.exfs b z hb
theorem Inv.step {g':Array GenState} {t':Nat} {d':Drawn} {ch:List Addr} (I:Inv X aq σ H s)
 (hch:∀ b∈ch,(b∈X.ex∨X.s₀.heap.objs.size≤b)/\b≠X.env.locals/\(∀ x c,X.env.cells.lookup x=some c->c≠b)/\∀ p∈X.pn++aq,p.1≠b)
 (keep:∀ b o,b≠X.env.locals->b∉X.fs->b∉ch->s.heap.get? b=some o->H b=none->h'.get? b=some o)
 (slot:∀ b o,b≠X.env.locals->b∈X.fs->b∉ch->s.heap.get? b=some o->H b=none->∃ sl,h'.get? b=some { o with slots:=sl }) (free:∀ b o,b∉ch->s.heap.get? b=some o->H b=none->H' b=none)
 (there:∀ b o,b∉ch->s.heap.get? b=some o->∃ o',h'.get? b=some o')
 (tups:∀ b xs,H b=some (.tup xs)->H' b=some (.tup xs)) (frzs:∀ b o u,H b=some (.frz o u)->H' b=some (.frz o u)) (tbls:∀ b ps,H b=some (.tbl ps)->∃ more,H' b=some (.tbl (ps++more)))
 (ns:∀ m,s.heap.Ns X.env.locals m->h'.Ns X.env.locals m) (hok:jW X.prog X.w H' h') (hg:AllBare g') :
 Inv X aq σ H' { s with heap:=h',gens:=g',drawn:=d',toks:=t' }:=by
 have neL:∀ b o,X.s₀.heap.get? b=some o->b≠X.env.locals:=fun b o e=>Nat.ne_of_lt (Nat.lt_of_lt_of_le (Heap.lt_size e) I.ok.above)
 have neC:∀ b o,X.s₀.heap.get? b=some o->b∉X.ex->b∉ch:=fun b o e hx hb=>by
  rcases (hch b hb).1 with z|z
  ·exact hx z
  ·exact absurd (Nat.lt_of_lt_of_le (Heap.lt_size e) z) (Nat.lt_irrefl _)
 have cellK:∀ x c,X.env.cells.lookup x=some c->∀ v,s.heap.IsCell c v->h'.IsCell c v:=fun x c e v ⟨o,ho,hd⟩=>by
  have nch:c∉ch:=fun z=>(hch c z).2.2.1 x c e rfl
  by_cases hc:c∈X.fs
  ·obtain ⟨sl,q⟩:=slot c o (I.cne x c e) hc nch ho (I.freeC x c e)
   exact ⟨_,q,hd⟩
  ·exact ⟨o,keep c o (I.cne x c e) hc nch ho (I.freeC x c e),hd⟩
 refine ⟨I.ok,I.os,hg,⟨fun b o e n hb hx=>?_,fun b o e n hb hx=>?_,fun b o e n hx=>?_,fun b o e hx=>?_,fun b xs e=>tups b xs (I.base.tups b xs e),fun b o xs e=>frzs b o xs (I.base.frzs b o xs e),fun b ps e=>?_⟩,?_,fun x c e=>?_,?_,fun x c e=>?_,fun p hp=>?_,hok,I.len⟩
 ·exact keep b o (neL b o e) hb (neC b o e hx) (I.base.keep b o e n hb hx) (I.base.free b o e n hx)
 ·obtain ⟨sl,e1⟩:=I.base.slot b o e n hb hx
  obtain ⟨sl',e2⟩:=slot b _ (neL b o e) hb (neC b o e hx) e1 (I.base.free b o e n hx)
  exact ⟨sl',e2⟩
 ·obtain ⟨o',e1⟩:=I.base.there b o e hx
  exact free b o' (neC b o e hx) e1 (I.base.free b o e n hx)
 ·obtain ⟨o',e1⟩:=I.base.there b o e hx
  exact there b o' (neC b o e hx) e1
 ·obtain ⟨m1,e1⟩:=I.base.tbls b ps e
  obtain ⟨m2,e2⟩:=tbls b _ e1
  exact ⟨m1++m2,by rw [e2,Array.append_assoc]⟩
 ·obtain ⟨m,hn,hl⟩:=I.loc
  refine ⟨m,ns m hn,fun i x v e1 e2 e3=>?_⟩
  obtain ⟨u,r,l⟩:=hl i x v e1 e2 e3
  refine ⟨u,r,?_⟩
  rcases l with l|⟨k,c,e,z⟩
  ·exact .inl l
  ·exact .inr ⟨k,c,e,cellK x c e _ z⟩
 ·obtain ⟨v,z⟩:=I.cell x c e
  exact ⟨v,cellK x c e v z⟩
 ·obtain ⟨m,⟨o,_,_,ho,_⟩,_⟩:=I.loc
  exact free _ o (fun z=>(hch _ z).2.1 rfl) ho I.free
 ·obtain ⟨v,o,ho,hd⟩:=I.cell x c e
  exact free c o (fun z=>(hch c z).2.2.1 x c e rfl) ho (I.freeC x c e)
 ·obtain ⟨e,n,ne,nf,d⟩:=I.pin p hp
  have nch:p.1∉ch:=fun z=>(hch p.1 z).2.2.2 p hp rfl
  exact ⟨keep p.1 p.2 ne nf nch e n,free p.1 p.2 nch e n,ne,nf,d⟩
theorem Inv.un {t':Nat} (I:Inv X aq σ H s) (u:Un X.fs [] H H' s.heap h') (hok:jW X.prog X.w H' h'):Inv X aq σ H' { s with heap:=h',toks:=t' }:=by
 obtain ⟨m,⟨o,es,ep,ho,r⟩,_⟩:=id I.loc
 obtain ⟨sl,hL⟩:=u.any ho I.free (by simp)
 exact I.step (g':=s.gens) (d':=s.drawn) (ch:=[]) (fun _ z=>nomatch z) (fun b o _ hb _ e n=>u.keep b o e n hb (by simp)) (fun b o _ hb _ e n=>u.slot b o e n hb (by simp)) (fun b o _ e n=>u.free b o e n (by simp)) (fun b o _ e=>u.there b o e (by simp)) u.tups u.frzs u.tbls (fun m' hm=>by
  obtain ⟨o',es',ep',ho',r'⟩:=hm
  rw [ho] at ho';cases ho'
  exact ⟨_,es',ep',hL,r'⟩) hok I.bare
theorem Inv.call {g':Array GenState} {t':Nat} {d':Drawn} {ch:List Addr} (I:Inv X aq σ H s) (u:Un (frs X.stack) ch H H' s.heap h') (hok:jW X.prog X.w H' h') (hg:AllBare g')
 (hch:∀ b∈ch,(b∈X.ex∨X.s₀.heap.objs.size≤b)/\b≠X.env.locals/\(∀ x c,X.env.cells.lookup x=some c->c≠b)/\∀ p∈X.pn++aq,p.1≠b) :
 Inv X aq σ H' { s with heap:=h',gens:=g',drawn:=d',toks:=t' }:=by
 obtain ⟨m,⟨o,es,ep,ho,r⟩,_⟩:=id I.loc
 obtain ⟨sl,hL⟩:=u.any ho I.free fun z=>(hch _ z).2.1 rfl
 exact I.step (ch:=ch) hch (fun b o hL hb hc e n=>u.keep b o e n (fun z=>(List.mem_cons.mp (I.stkSub b z)).elim hL hb) hc) (fun b o _ _ hc e n=>u.any e n hc) (fun b o hc e n=>u.free b o e n hc) (fun b o hc e=>u.there b o e hc) u.tups u.frzs u.tbls (fun m' hm=>by
  obtain ⟨o',es',ep',ho',r'⟩:=hm
  rw [ho] at ho';cases ho'
  exact ⟨_,es',ep',hL,r'⟩) hok hg
theorem Inv.turned {t':Nat} {it:Addr} (I:Inv X aq σ H s) (k:∀ b o,b≠it->s.heap.get? b=some o->h'.get? b=some o) (hn:H it=none) (hL:it≠X.env.locals)
 (h1:it∈X.ex∨X.s₀.heap.objs.size≤it) (h2:∀ x c,X.env.cells.lookup x=some c->c≠it) (h3:∀ p∈X.pn++aq,p.1≠it):Inv X aq σ H { s with heap:=h',toks:=t' }:=by
 have nit:∀ b u,H b=some u->b≠it:=fun b u e z=>by rw [z,hn] at e;cases e
 refine I.step (g':=s.gens) (d':=s.drawn) (ch:=[it]) (fun b hb=>?_) (fun b o _ _ hc e _=>k b o (fun z=>hc (by simp [z])) e) (fun b o _ _ hc e _=>⟨o.slots,k b o (fun z=>hc (by simp [z])) e⟩) (fun _ _ _ _ n=>n)
  (fun b o hc e=>⟨o,k b o (fun z=>hc (by simp [z])) e⟩) (fun _ _ e=>e) (fun _ _ _ e=>e) (fun b ps e=>⟨#[],by rw [e];simp⟩) (fun m hm=>?_) (fun b u e=>?_) I.bare
 ·have e:b=it:=by simpa using hb
  subst e
  exact ⟨h1,hL,h2,h3⟩
 ·obtain ⟨o,es,ep,ho,r⟩:=hm
  exact ⟨o,es,ep,k _ o (Ne.symm hL) ho,r⟩
 ·refine (I.hok b u e).stay (fun c v hc q=>k c v ?_ q) (fun _ q=>q) fun _ _ q=>q
  rcases hc with z|z
  ·rw [z];exact nit b u e
  ·exact nit c _ z
theorem Inv.tok (I:Inv X aq σ H s) (t:Nat):Inv X aq σ H { s with toks:=t }:=I.un (h':=s.heap) (t':=t) Un.refl I.hok
theorem Inv.kept (I:Inv X aq σ H s) (k:∀ b u,s.heap.get? b=some u->h'.get? b=some u):Inv X aq σ H { s with heap:=h',toks:=t' }:=I.un (Un.kept k) (I.hok.kept k)
theorem Inv.laid (I:Inv X aq σ H s) (k:∀ b u,s.heap.get? b=some u->h'.get? b=some u) (hp:s.heap.objs.size≤a) (new:dm X.prog X.w (upd H a o) h' a o) :
 Inv X aq σ (upd H a o) { s with heap:=h',toks:=t' }:=I.un (Un.laid k hp (I.hok.fresh hp)) (I.hok.laid k hp new)
theorem Inv.write (I:Inv X aq σ H s) (mu:Kq (H x)) (he:e=x∨H e=some (.own x)) (k:∀ b u,b≠e->s.heap.get? b=some u->h'.get? b=some u) (heo:∃ u,h'.get? e=some u)
 (new:dm X.prog X.w (upd H x o) h' x o):Inv X aq σ (upd H x o) { s with heap:=h',toks:=t' }:=I.un (Un.write mu he k heo) (I.hok.write mu he k heo new)
theorem Inv.pins_of (I:Inv X aq σ H s) (h:∀ p∈pins',s.heap.get? p.1=some p.2/\H p.1=none/\p.1≠X.env.locals/\p.1∉X.fs/\∀ v,p.2.data≠.cell v):Inv X pins' σ H s:=
 ⟨I.ok,I.os,I.bare,I.base,I.loc,I.cell,I.free,I.freeC,fun p hp=>(List.mem_append.mp hp).elim (fun z=>I.pin p (List.mem_append_left _ z)) (h p),I.hok,I.len⟩
theorem oE {N:List Str} (hN:N.Nodup) {i j:Nat} {x:Str} (a:N[i]?=some x) (b:N[j]?=some x):i=j:=by
 obtain ⟨h1,e1⟩:=List.getElem?_eq_some_iff.mp a
 obtain ⟨h2,e2⟩:=List.getElem?_eq_some_iff.mp b
 exact (List.getElem_inj hN).mp (e1.trans e2.symm)
theorem pC {M:Model} {A:Around} {E:Value->Shared->Prop} {i:Nat} {x:Str} {v:V} {u:Value} {Q:Unit->Shared->Prop} (I:Inv X aq σ H s) (hN:X.N.Nodup) (hi:X.N[i]?=some x) (hx:Loc X.env.scope x) (r:RelV v u)
 (h:∀ s',Inv X aq (σ.set i (some v)) H s'->(∃ a,Heap.SameBut a s.heap s'.heap/\(a=X.env.locals∨X.env.cells.lookup x=some a))->Q () s') (hf:X.fn x=true∨X.env.scope.names.lookup x=some .local:=by first|exact .inl rfl|exact .inr rfl|assumption):wpAny M A (storeName X.env x u) Q E s:=by
 obtain ⟨m,hn,hl⟩:=id I.loc
 have hcls:(X.env.scope.kind == .class || (X.env.scope.kind == .module && X.env.locals != X.env.globals))=false:=by rw [I.ok.kind];rfl
 have hiσ:i<σ.length:=by rw [I.len];exact (List.getElem?_eq_some_iff.mp hi).1
 have cne:=I.cne
 have tracked:∀ {a:Addr} {h':Heap},(∃ o,s.heap.get? a=some o/\H a=none)->Heap.SameBut a s.heap h'->jW X.prog X.w H h':=fun {a h'} ha hs b ob e=>by
  obtain ⟨_,_,hfree⟩:=ha
  refine (I.hok b ob e).stay (fun c w' hc q=>(hs.2 c ?_).trans q) (fun _ q=>q) fun _ _ q=>q
  rintro rfl
  rcases hc with rfl|hc
  ·rw [hfree] at e;cases e
  ·rw [hfree] at hc;cases hc
 rcases hx with hk|hk
 ·refine wpAny_storeName_local hk hn (fun h' hn' hs=>?_) hcls
  obtain ⟨oL,_,_,hoL,_⟩:=id hn
  refine h _ ⟨I.ok,I.os,I.bare,⟨fun b o e n hb hx=>?_,fun b o e n hb hx=>?_,I.base.free,fun b o e hx=>?_,I.base.tups,I.base.frzs,I.base.tbls⟩,⟨_,hn',fun j y v' e1 e2 e3=>?_⟩,fun y c e=>?_,I.free,I.freeC,fun p hp=>?_,tracked ⟨oL,hoL,I.free⟩ hs,by simpa using I.len⟩ ⟨_,hs,.inl rfl⟩
  ·exact (hs.2 b (Nat.ne_of_lt (Nat.lt_of_lt_of_le (Heap.lt_size e) I.ok.above))).trans (I.base.keep b o e n hb hx)
  ·obtain ⟨sl,e1⟩:=I.base.slot b o e n hb hx
   exact ⟨sl,(hs.2 b (Nat.ne_of_lt (Nat.lt_of_lt_of_le (Heap.lt_size e) I.ok.above))).trans e1⟩
  ·obtain ⟨o',e1⟩:=I.base.there b o e hx
   exact ⟨o',(hs.2 b (Nat.ne_of_lt (Nat.lt_of_lt_of_le (Heap.lt_size e) I.ok.above))).trans e1⟩
  ·by_cases hj:j=i
   ·subst hj
    rw [hi] at e1;cases e1
    rw [List.getElem?_set_self hiσ] at e2
    cases e2
    exact ⟨u,r,.inl ⟨hk,by simp⟩⟩
   ·rw [List.getElem?_set_ne (Ne.symm hj)] at e2
    obtain ⟨u',r',q⟩:=hl j y v' e1 e2 e3
    refine ⟨u',r',?_⟩
    rcases q with ⟨k,e⟩|⟨k,c,e,z⟩
    ·refine .inl ⟨k,?_⟩
     have:y≠x:=fun e=>hj (oE hN e1 (e ▸ hi))
     simp [this,e]
    ·exact .inr ⟨k,c,e,z.sameBut hs (cne y c e)⟩
  ·obtain ⟨w',z⟩:=I.cell y c e
   exact ⟨w',z.sameBut hs (cne y c e)⟩
  ·obtain ⟨e,n,ne,nf,d⟩:=I.pin p hp
   exact ⟨(hs.2 p.1 ne).trans e,n,ne,nf,d⟩
 ·have hfn:X.fn x=true:=by
   rcases hf with z|z
   ·exact z
   ·rw [z] at hk;cases hk
  obtain ⟨c,hc⟩:=I.ok.has x (.inl hk)
  obtain ⟨w',z⟩:=I.cell x c hc
  refine wpAny_storeName_cell I.ok.kind hk hc z (fun h' hc' hs=>?_)
  obtain ⟨oc,hoc,hocd⟩:=id z
  refine h { s with heap:=h' } ⟨I.ok,I.os,I.bare,⟨fun b o e n hb hx=>?_,fun b o e n hb hx=>?_,I.base.free,fun b o e hx=>?_,I.base.tups,I.base.frzs,I.base.tbls⟩,⟨m,hn.sameBut hs (Ne.symm (cne x c hc)),fun j y v' e1 e2 e3=>?_⟩,fun y c' e=>?_,I.free,I.freeC,fun p hp=>?_,tracked ⟨oc,hoc,I.freeC x c hc⟩ hs,by simpa using I.len⟩ ⟨c,hs,.inr hc⟩
  ·exact (hs.2 b (Nat.ne_of_lt (Nat.lt_of_lt_of_le (Heap.lt_size e) (I.ok.cab x c hfn hc)))).trans (I.base.keep b o e n hb hx)
  ·obtain ⟨sl,e1⟩:=I.base.slot b o e n hb hx
   exact ⟨sl,(hs.2 b (Nat.ne_of_lt (Nat.lt_of_lt_of_le (Heap.lt_size e) (I.ok.cab x c hfn hc)))).trans e1⟩
  ·obtain ⟨o',e1⟩:=I.base.there b o e hx
   exact ⟨o',(hs.2 b (Nat.ne_of_lt (Nat.lt_of_lt_of_le (Heap.lt_size e) (I.ok.cab x c hfn hc)))).trans e1⟩
  ·by_cases hj:j=i
   ·subst hj
    rw [hi] at e1;cases e1
    rw [List.getElem?_set_self hiσ] at e2
    cases e2
    exact ⟨u,r,.inr ⟨.inl hk,c,hc,hc'⟩⟩
   ·rw [List.getElem?_set_ne (Ne.symm hj)] at e2
    obtain ⟨u',r',q⟩:=hl j y v' e1 e2 e3
    refine ⟨u',r',?_⟩
    rcases q with q|⟨k,c',e,z'⟩
    ·exact .inl q
    ·refine .inr ⟨k,c',e,z'.sameBut hs ?_⟩
     rintro rfl
     exact hj (oE hN e1 (I.ok.inj _ _ _ e hc ▸ hi))
  ·by_cases hcc:c'=c
   ·subst hcc;exact ⟨_,hc'⟩
   ·obtain ⟨w2,z2⟩:=I.cell y c' e
    exact ⟨w2,z2.sameBut hs hcc⟩
  ·obtain ⟨e,n,ne,nf,d⟩:=I.pin p hp
   refine ⟨(hs.2 p.1 ?_).trans e,n,ne,nf,d⟩
   intro q
   rw [q,hoc] at e
   have q':oc=p.2:=Option.some.inj e
   exact d w' (by rw [← q'];exact hocd)
theorem nP (I:Inv X aq σ H s) (hN:X.N.Nodup) (hi:X.N[i]?=some x) (hx:Loc X.env.scope x) (r:RelV v u)
 (h:∀ s',Inv X aq (σ.set i (some v)) H s'->Q () s') (hf:X.fn x=true∨X.env.scope.names.lookup x=some .local:=by first|exact .inl rfl|exact .inr rfl|assumption):wpAny M A (storeName X.env x u) Q E s:=
 pC I hN hi hx r (fun s' I' _=>h s' I') hf
theorem Inv.call' (I:Inv X aq σ H s) (ho:s'.os=s.os) (u:Un (frs X.stack) ch H H' s.heap s'.heap) (hok:jW X.prog X.w H' s'.heap) (hg:AllBare s'.gens)
 (hch:∀ b∈ch,(b∈X.ex∨X.s₀.heap.objs.size≤b)/\b≠X.env.locals/\(∀ x c,X.env.cells.lookup x=some c->c≠b)/\∀ p∈X.pn++aq,p.1≠b):Inv X aq σ H' s':=by
 obtain ⟨h',g',d',t',o'⟩:=s'
 have e:o'=s.os:=ho
 subst e
 exact I.call (g':=g') (t':=t') (d':=d') u hok hg hch
end
noncomputable abbrev XK:=Value->Option Addr->Hp->Prop
noncomputable abbrev St:=List (Option V)
noncomputable abbrev VK:=V->Hp->Prop
noncomputable abbrev TE:=St->Hp->VK->Prop
noncomputable abbrev TT:=St->Hp->(Bool->Hp->Prop)->Prop
noncomputable abbrev TA:=St->Hp->(List V->Hp->Prop)->Prop
structure Ends where
 nx:St->Hp->Prop
 rt:VK
 bk:St->Hp->Prop:=fun _ _=>False
 ct:St->Hp->Prop:=fun _ _=>False
noncomputable abbrev TS:=Ends->St->Hp->Prop
noncomputable def EP (X:Cx) (aq:List (Addr×Obj)) (σ:St) (Q:VK) (u:Value) (s':Shared):Prop:=∃ v H',Inv X aq σ H' s'/\RelV v u/\Q v H'
noncomputable def TP (X:Cx) (aq:List (Addr×Obj)) (σ:St) (Q:Bool->Hp->Prop) (b:Bool) (s':Shared):Prop:=∃ H',Inv X aq σ H' s'/\Q b H'
noncomputable def AP (X:Cx) (aq:List (Addr×Obj)) (σ:St) (Q:List V->Hp->Prop) (us:List Value) (s':Shared):Prop:=∃ vs H',Inv X aq σ H' s'/\Vals vs us/\Q vs H'
noncomputable def SP (X:Cx) (aq:List (Addr×Obj)) (D:Ends) (f:Flow) (s':Shared):Prop:=
 match f with
 |.next=>∃ σ' H',Inv X aq σ' H' s'/\D.nx σ' H'
 |.brk=>∃ σ' H',Inv X aq σ' H' s'/\D.bk σ' H'
 |.cont=>∃ σ' H',Inv X aq σ' H' s'/\D.ct σ' H'
 |.ret u=>∃ v σ' H',Inv X aq σ' H' s'/\RelV v u/\D.rt v H'
noncomputable def PE (X:Cx) (e:Expr) (t:TE):Prop:=
 ∀ (aq:List (Addr×Obj)) (s:Shared) (σ:St) (H:Hp) (Q:VK),Inv X aq σ H s->t σ H Q->wpAny (model X.prog X.w) X.A (eval e X.env) (EP X aq σ Q) X.xe s
noncomputable def PT (X:Cx) (e:Expr) (t:TT):Prop:=
 ∀ (aq:List (Addr×Obj)) (s:Shared) (σ:St) (H:Hp) (Q:Bool->Hp->Prop),Inv X aq σ H s->t σ H Q->wpAny (model X.prog X.w) X.A (isTrue e X.env (eval e X.env)) (TP X aq σ Q) X.xe s
noncomputable def PW (X:Cx) (e:Expr) (t:TT):Prop:=
 ∀ (whole:Sem Value) (aq:List (Addr×Obj)) (s:Shared) (σ:St) (H:Hp) (Q:Bool->Hp->Prop),Inv X aq σ H s->t σ H Q->wpAny (model X.prog X.w) X.A (isTrue e X.env whole) (TP X aq σ Q) X.xe s
theorem PW.pt (h:PW X e t):PT X e t:=h _
noncomputable def PA (X:Cx) (es:List Expr) (t:TA):Prop:=
 ∀ (pos:Pos) (aq:List (Addr×Obj)) (s:Shared) (σ:St) (H:Hp) (Q:List V->Hp->Prop),Inv X aq σ H s->t σ H Q->wpAny (model X.prog X.w) X.A (spliced (backTo pos (starEach es X.env))) (AP X aq σ Q) X.xe s
noncomputable def PS (X:Cx) (st:Stmt) (t:TS):Prop:=
 ∀ (aq:List (Addr×Obj)) (s:Shared) (σ:St) (H:Hp) (D:Ends),Inv X aq σ H s->t D σ H->wpAny (model X.prog X.w) X.A (exec st X.env) (SP X aq D) X.xe s
noncomputable def uT (X:Cx) (st:List Stmt) (t:TS):Prop:=
 ∀ (aq:List (Addr×Obj)) (s:Shared) (σ:St) (H:Hp) (D:Ends),Inv X aq σ H s->t D σ H->wpAny (model X.prog X.w) X.A (execs st X.env) (SP X aq D) X.xe s
theorem cI {α:Type} {t:Sem α} {Q Q':α->Shared->Prop} {M:Model} {A:Around} {E:Value->Shared->Prop} {s:Shared} (h:wpAny M A t Q E s) (hQ:∀ a s,Q a s->Q' a s):wpAny M A t Q' E s:=wpAny_mono h hQ fun _ _ x=>x
section
variable {X:Cx}
theorem bin {a b:Expr} {ta tb:TE} (ha:PE X a ta) (hb:PE X b tb) {aq:List (Addr×Obj)} {s:Shared} {σ:St} {H:Hp} {R:V->V->Hp->Prop} (I:Inv X aq σ H s) (h:ta σ H fun x H1=>tb σ H1 fun y H2=>R x y H2)
 {α:Type} {Q:α->Shared->Prop} {f:Value->Value->Sem α}
 (hf:∀ v u s2 x y H2,Inv X aq σ H2 s2->RelV x v->RelV y u->R x y H2->wpAny (model X.prog X.w) X.A (f v u) Q X.xe s2) :
 wpAny (model X.prog X.w) X.A (eval a X.env) (fun v s₁=>wpAny (model X.prog X.w) X.A (eval b X.env) (fun u s₂=>wpAny (model X.prog X.w) X.A (f v u) Q X.xe s₂) X.xe s₁) X.xe s:=by
 refine cI (ha aq s σ H _ I h) fun v s1 ⟨x,H1,I1,r1,q1⟩=>?_
 refine cI (hb aq s1 σ H1 _ I1 q1) fun u s2 ⟨y,H2,I2,r2,q2⟩=>?_
 exact hf v u s2 x y H2 I2 r1 r2 q2
noncomputable def kh (i:Nat):TE:=fun σ H Q=>∃ v,σ[i]?=some (some v)/\Q v H
noncomputable def tC (v:V):TE:=fun _ H Q=>Q v H
theorem Gn (hN:X.N[i]?=some x) (hv:Jg X.env.scope x) (hd:(x == ("__debug__" : Str))=false:=by decide) (hcd:(x == ("__classdict__" : Str))=false:=by decide):PE X (.Name x pos) (kh i):=by
 intro aq s σ H Q I h
 obtain ⟨v,e,h⟩:=h
 obtain ⟨m,hn,hl⟩:=I.loc
 obtain ⟨u,r,l⟩:=hl i x v hN e hv
 have fin:EP X aq σ Q u s:=⟨v,H,I,r,h⟩
 rcases l with ⟨hk,hm⟩|⟨hk,c,hc,hcell⟩
 ·exact wpAny_Name (wpAny_loadName_local I.ok.kind hk hn hm fin) hd
 ·rcases hk with hk|hk
  ·exact wpAny_Name (wpAny_loadName_cell I.ok.kind hk hc hcell fin) hd
  ·exact wpAny_Name (wpAny_loadName_free I.ok.kind hk hc hcell fin hcd) hd
theorem aA {i j pos}:PE X (.Constant (.int i) j pos) (tC (.int i)):=fun _ _ _ H _ I h=>wpAny_Constant_int ⟨.int i,H,I.tok _,⟨_,rfl⟩,h⟩
theorem cY {b j pos}:PE X (.Constant (.bool b) j pos) (tC (.bl b)):=fun _ _ _ H _ I h=>Constant_bool ⟨.bl b,H,I,rfl,h⟩
theorem qi {j pos}:PE X (.Constant .none j pos) (tC .non):=fun _ _ _ H _ I h=>Constant_none ⟨.non,H,I,rfl,h⟩
theorem aM {x j pos}:PE X (.Constant (.str x) j pos) (tC (.str x)):=fun _ _ _ H _ I h=>Calls.Constant_str ⟨.str x,H,I.tok _,⟨_,rfl⟩,h⟩
noncomputable def Gl (X:Cx) (x:Str):Prop:=X.env.kindOf x=some .globalImplicit
theorem qQ (I:Inv X aq σ H s) (hg:Gl X x) (hm:X.mg x=some u) (h:Q u s)
 (hd:(x == ("__debug__" : Str))=false:=by decide):wpAny (model X.prog X.w) X.A (eval (.Name x pos) X.env) Q E s:=
 Calls.Name_function_global I.ok.kind hg (Calls.loadGlobal_global (by rw [I.ok.glob];exact I.mod.glob.keeps I.bk) hm h) hd
theorem gG (I:Inv X aq σ H s) (hg:Gl X x) (hm:X.mg x=none) (hv:bootBuiltins x=some u) (h:Q u s)
 (hn:x ≠ "__name__":=by decide) (hd:(x == ("__debug__" : Str))=false:=by decide):wpAny (model X.prog X.w) X.A (eval (.Name x pos) X.env) Q E s:=by
 obtain ⟨mb,h1,h2⟩:=I.mod.blt
 exact Calls.Name_function_global I.ok.kind hg (Calls.loadGlobal_builtin (by rw [I.ok.glob];exact I.mod.glob.keeps I.bk) hm (by rw [I.ok.blt];exact h1.keeps I.bk) ((h2 x hn).trans hv) h) hd
theorem cB (hg:Gl X x) (hm:X.mg x=some u) (r:RelV v u) (hd:(x == ("__debug__" : Str))=false:=by decide):PE X (.Name x pos) (tC v):=
 fun _ _ _ H _ I h=>qQ I hg hm ⟨v,H,I,r,h⟩ hd
theorem Cu (hg:Gl X x) (hm:X.mg x=none) (hv:bootBuiltins x=some u) (r:RelV v u) (hn:x ≠ "__name__":=by decide) (hd:(x == ("__debug__" : Str))=false:=by decide):PE X (.Name x pos) (tC v):=
 fun _ _ _ H _ I h=>gG I hg hm hv ⟨v,H,I,r,h⟩ hn hd
noncomputable def PC (X:Cx) (op:CmpOp) (a b:Expr) (t:TE):Prop:=
 ∀ (aq:List (Addr×Obj)) (s:Shared) (σ:St) (H:Hp) (Q:VK),Inv X aq σ H s->t σ H Q->
   wpAny (model X.prog X.w) X.A (eval a X.env) (fun v s₁=>wpAny (model X.prog X.w) X.A (eval b X.env) (fun u s₂=>wpAny (model X.prog X.w) X.A (compareOp op v u) (EP X aq σ Q) X.xe s₂) X.xe s₁) X.xe s
noncomputable def tB (t:TE):TT:=fun σ H Q=>t σ H fun x H1=>∃ c,x=.bl c/\Q c H1
theorem Ou {op:CmpOp} {t:TE} (h:PC X op a b t) (h1:behindInMarks op b=false:=by first|exact nobehind _ (by decide) (by decide)|rfl):PT X (.Compare a [op] [b] pos) (tB t):=by
 intro aq s σ H Q I hw
 refine wpAny_isTrue_Compare1 (cI (h aq s σ H _ I hw) fun v s1 h1=>cI h1 fun u s2 h2=>cI h2 fun c s3 ⟨x,H1,I1,r1,q1⟩=>?_) h1
 obtain ⟨d,rfl,q⟩:=q1
 cases r1
 exact wpAny_truthy_bool ⟨H1,I1,q⟩
theorem bU {e:Expr} {t:TE} (h:PE X e t) (he:∀ whole,isTrue e X.env whole=(do let v ← whole;standAt e.pos;holding [v] (truthy v)):=by intro _;rfl):PT X e (tB t):=by
 intro aq s σ H Q I hw
 refine isTrue_plain (cI (h aq s σ H _ I hw) fun v s1 ⟨x,H1,I1,r1,q1⟩=>?_) (he _)
 obtain ⟨d,rfl,q⟩:=q1
 cases r1
 exact wpAny_truthy_bool ⟨H1,I1,q⟩
noncomputable def Np (t u:TT):TT:=fun σ H Q=>t σ H fun c H1=>if c=true then u σ H1 Q else Q false H1
noncomputable def Qi (t u:TT):TT:=fun σ H Q=>t σ H fun c H1=>if c=true then Q true H1 else u σ H1 Q
noncomputable def Lk (t:TT):TT:=fun σ H Q=>t σ H fun c H1=>Q (!c) H1
theorem ir (ha:PT X a tA):PW X (.BoolOp .And [a] pos) tA:=by
 intro wh aq s σ H Q I h
 refine isTrue_and (cI (ha aq s σ H Q I h) fun c s1 e=>?_)
 cases c with
 |true=>exact isTrue_and_nil e
 |false=>exact e
theorem fJ (ha:PT X a tA):PW X (.BoolOp .Or [a] pos) tA:=by
 intro wh aq s σ H Q I h
 refine isTrue_or (cI (ha aq s σ H Q I h) fun c s1 e=>?_)
 cases c with
 |false=>exact isTrue_or_nil e
 |true=>exact e
theorem gW {a b:Expr} {pos:Pos} {tA tB':TT} {rest:List Expr} (ha:PT X a tA) (hb:PW X (.BoolOp .And (b::rest) pos) tB'):PW X (.BoolOp .And (a::b::rest) pos) (Np tA tB'):=by
 intro wh aq s σ H Q I h
 refine isTrue_and (cI (ha aq s σ H _ I h) fun c s1 ⟨H1,I1,q1⟩=>?_)
 cases c with
 |true=>exact hb wh aq s1 σ H1 Q I1 q1
 |false=>exact ⟨H1,I1,q1⟩
theorem gJ {a b:Expr} {pos:Pos} {tA tB':TT} {rest:List Expr} (ha:PT X a tA) (hb:PW X (.BoolOp .Or (b::rest) pos) tB'):PW X (.BoolOp .Or (a::b::rest) pos) (Qi tA tB'):=by
 intro wh aq s σ H Q I h
 refine isTrue_or (cI (ha aq s σ H _ I h) fun c s1 ⟨H1,I1,q1⟩=>?_)
 cases c with
 |true=>exact ⟨H1,I1,q1⟩
 |false=>exact hb wh aq s1 σ H1 Q I1 q1
theorem cN (ha:PT X a tA):PT X (.UnaryOp .Not a pos) (Lk tA):=by
 intro aq s σ H Q I h
 exact isTrue_not (ha aq s σ H (fun c H1=>Q (!c) H1) I h)
noncomputable def Ke (ta tb:TE):TE:=fun σ H Q=>ta σ H fun x H1=>∃ c,x=.bl c/\if c=true then tb σ H1 Q else Q (.bl false) H1
noncomputable def My (ta tb:TE):TE:=fun σ H Q=>ta σ H fun x H1=>∃ c,x=.bl c/\if c=true then Q (.bl true) H1 else tb σ H1 Q
noncomputable def Lf (ta:TE):TE:=fun σ H Q=>ta σ H fun x H1=>∃ c,x=.bl c/\Q (.bl (!c)) H1
theorem dI {op} (h:PE X a t):PE X (.BoolOp op [a] pos) t:=fun aq s σ H Q I hw=>BoolOp_one (h aq s σ H Q I hw)
theorem cA {a b:Expr} {ta tb:TE} {pos:Pos} {rest:List Expr} (ha:PE X a ta) (hb:PE X (.BoolOp .And (b::rest) pos) tb):PE X (.BoolOp .And (a::b::rest) pos) (Ke ta tb):=by
 intro aq s σ H Q I h
 refine BoolOp_and (cI (ha aq s σ H _ I h) fun v s1 ⟨x,H1,I1,r1,q1⟩=>?_)
 obtain ⟨c,rfl,q1⟩:=q1
 cases r1
 refine wpAny_truthy_bool ?_
 cases c with
 |true=>exact hb aq s1 σ H1 Q I1 q1
 |false=>exact ⟨.bl false,H1,I1,rfl,q1⟩
theorem Eh {a b:Expr} {ta tb:TE} {pos:Pos} {rest:List Expr} (ha:PE X a ta) (hb:PE X (.BoolOp .Or (b::rest) pos) tb):PE X (.BoolOp .Or (a::b::rest) pos) (My ta tb):=by
 intro aq s σ H Q I h
 refine BoolOp_or (cI (ha aq s σ H _ I h) fun v s1 ⟨x,H1,I1,r1,q1⟩=>?_)
 obtain ⟨c,rfl,q1⟩:=q1
 cases r1
 refine wpAny_truthy_bool ?_
 cases c with
 |false=>exact hb aq s1 σ H1 Q I1 q1
 |true=>exact ⟨.bl true,H1,I1,rfl,q1⟩
theorem yK (ha:PE X a ta):PE X (.UnaryOp .Not a pos) (Lf ta):=by
 intro aq s σ H Q I h
 refine UnaryOp_ (cI (ha aq s σ H _ I h) fun v s1 ⟨x,H1,I1,r1,q1⟩=>?_)
 obtain ⟨c,rfl,q1⟩:=q1
 cases r1
 exact not_of (wpAny_truthy_bool ⟨.bl (!c),H1,I1,rfl,q1⟩)
noncomputable def Q6 (t:TT) (ta tb:TE):TE:=fun σ H Q=>t σ H fun c H1=>if c=true then ta σ H1 Q else tb σ H1 Q
theorem eN {c:Expr} (hc:PT X c tA) (ha:PE X a ta) (hb:PE X b tb):PE X (.IfExp c a b pos) (Q6 tA ta tb):=by
 intro aq s σ H Q I h
 refine wpAny_IfExp (cI (hc aq s σ H _ I h) fun d s1 ⟨H1,I1,q1⟩=>?_)
 cases d with
 |true=>exact ha aq s1 σ H1 Q I1 q1
 |false=>exact hb aq s1 σ H1 Q I1 q1
end
noncomputable def bF (K:PySem.W.Frag) (H:Hp) (a:Addr) (xs:List V):Prop:=
 Rd H a (.lst xs)∨
  ∃ (o:Obj) (its:Array Value) (n:Nat),K.lookup a=some o/\o.cls=.type "list"/\o.dict=none/\o.data=.seq its n/\its.size≤sizeLine/\Vals xs its.toList
noncomputable def bD (K:PySem.W.Frag) (H:Hp) (a:Addr) (xs:List V):Prop:=
 Rd H a (.tup xs)∨
  ∃ (o:Obj) (its:Array Value) (n:Nat),K.lookup a=some o/\o.cls=.type "tuple"/\o.data=.seq its n/\its.size≤sizeLine/\Vals xs its.toList
noncomputable def P0:Value->Option V
 |.none=>some .non
 |.bool b=>some (.bl b)
 |.int i _=>some (.int i)
 |.str x _=>some (.str x)
 |.bytes b _=>some (.byt b)
 |.float b _=>some (.flt b)
 |.ref a=>some (.ref a)
 |.type n=>some (.ty n)
 |_=>none
theorem RelV.abs (r:RelV x u):P0 u=some x:=by
 cases x with
 |non=>cases r;rfl
 |bl _=>cases r;rfl
 |int _=>obtain ⟨t,rfl⟩:=r;rfl
 |str _=>obtain ⟨t,rfl⟩:=r;rfl
 |byt _=>obtain ⟨t,rfl⟩:=r;rfl
 |flt _=>obtain ⟨t,rfl⟩:=r;rfl
 |ref _=>cases r;rfl
 |ty _=>cases r;rfl
theorem RelV.inj (r:RelV x u) (q:RelV y u):x=y:=Option.some.inj (r.abs.symm.trans q.abs)
theorem Vals.inj:∀ {xs ys:List V} {us:List Value},Vals xs us->Vals ys us->xs=ys
 |_,_,_,.nil,.nil=>rfl
 |_,_,_,.cons r t,.cons r' t'=>by rw [r.inj r',Vals.inj t t']
theorem bF.of {H:Hp} {K:PySem.W.Frag} (h:H a=some (.lst xs)):bF K H a xs:=.inl (.inl h)
theorem bD.of {H:Hp} {K:PySem.W.Frag} (h:H a=some (.tup xs)):bD K H a xs:=.inl (.inl h)
theorem Inv.list (I:Inv X aq σ H s) (h:bF X.K H a xs):∃ its:List Value,Vals xs its/\PlainL s.heap a its.toArray/\xs.length≤sizeLine:=by
 rcases h with h|⟨o,its,n,hk,hc,hd,hs,hz,r⟩
 ·obtain ⟨z,its,n,r,e⟩:=h.ok I.hok
  exact ⟨its,r,⟨_,n,e,rfl,rfl,rfl⟩,z⟩
 ·refine ⟨its.toList,r,⟨o,n,I.kIn a o hk,hc,hd,by simpa using hs⟩,?_⟩
  have e:=r.length
  simp only [Array.length_toList] at e
  lia
theorem Inv.tuple (I:Inv X aq σ H s) (h:bD X.K H a xs):∃ its:List Value,Vals xs its/\IsTup s.heap a its.toArray/\xs.length≤sizeLine:=by
 rcases h with h|⟨o,its,n,hk,hc,hs,hz,r⟩
 ·obtain ⟨z,its,r,p⟩:=h.ok I.hok
  exact ⟨its,r,p,z⟩
 ·refine ⟨its.toList,r,⟨o,I.kIn a o hk,hc,n,by simpa using hs⟩,?_⟩
  have e:=r.length
  simp only [Array.length_toList] at e
  lia
theorem Inv.list_inj (I:Inv X aq σ H s) (h:bF X.K H a xs) (h':bF X.K H a ys):xs=ys:=by
 obtain ⟨its,r,⟨o,n,e,_,_,d⟩,_⟩:=I.list h
 obtain ⟨its',r',⟨o',n',e',_,_,d'⟩,_⟩:=I.list h'
 rw [e] at e';cases e'
 rw [d] at d'
 injection d' with d1 _
 have:its=its':=by simpa using congrArg Array.toList d1
 subst this
 exact r.inj r'
theorem Inv.tuple_inj (I:Inv X aq σ H s) (h:bD X.K H a xs) (h':bD X.K H a ys):xs=ys:=by
 obtain ⟨its,r,⟨o,e,_,n,d⟩,_⟩:=I.tuple h
 obtain ⟨its',r',⟨o',e',_,n',d'⟩,_⟩:=I.tuple h'
 rw [e] at e';cases e'
 rw [d] at d'
 injection d' with d1 _
 have:its=its':=by simpa using congrArg Array.toList d1
 subst this
 exact r.inj r'
noncomputable abbrev Cx.wish (X:Cx) (E:Value->Shared->Prop):Cx:={ X with xe:=E }
noncomputable abbrev Cx.nox (X:Cx):Cx:=X.wish fun _ _=>False
theorem Cx.Ok.wish {X:Cx} (ok:X.Ok) (E:Value->Shared->Prop):(X.wish E).Ok:=
 ⟨ok.mod,ok.kind,ok.glob,ok.blt,ok.above,ok.inj,ok.has,ok.cab,ok.hd,ok.frames,ok.stk,ok.exf,ok.bs,ok.bsz,ok.noex,ok.exfs,ok.funs,ok.frf⟩
theorem Cx.Ok.unwish {X:Cx} (ok:(X.wish E).Ok):X.Ok:=
 ⟨ok.mod,ok.kind,ok.glob,ok.blt,ok.above,ok.inj,ok.has,ok.cab,ok.hd,ok.frames,ok.stk,ok.exf,ok.bs,ok.bsz,ok.noex,ok.exfs,ok.funs,ok.frf⟩
theorem Inv.wish {X:Cx} (I:Inv X aq σ H s) (E:Value->Shared->Prop):Inv (X.wish E) aq σ H s:=⟨I.ok.wish E,I.os,I.bare,I.base,I.loc,I.cell,I.free,I.freeC,I.pin,I.hok,I.len⟩
theorem Inv.unwish {X:Cx} (I:Inv (X.wish E) aq σ H s):Inv X aq σ H s:=⟨I.ok.unwish,I.os,I.bare,I.base,I.loc,I.cell,I.free,I.freeC,I.pin,I.hok,I.len⟩
theorem SP.unwish (h:SP (X.wish E) aq D f s'):SP X aq D f s':=by
 cases f with
 |next=>obtain ⟨σ',H',I,q⟩:=h;exact ⟨σ',H',I.unwish,q⟩
 |brk=>obtain ⟨σ',H',I,q⟩:=h;exact ⟨σ',H',I.unwish,q⟩
 |cont=>obtain ⟨σ',H',I,q⟩:=h;exact ⟨σ',H',I.unwish,q⟩
 |ret u=>obtain ⟨v,σ',H',I,r,q⟩:=h;exact ⟨v,σ',H',I.unwish,r,q⟩
theorem uT.nox {X:Cx} {st:List Stmt} {t:TS} (h:uT X.nox st t):uT X st t:=fun aq s σ H D I hw=>
 wpAny_mono (h aq s σ H D (I.wish _) hw) (fun _ _ q=>q.unwish) fun _ _ z=>False.elim z
noncomputable def Js:TS:=fun D σ H=>D.nx σ H
noncomputable def Hz (t u:TS):TS:=fun D σ H=>t { D with nx:=u D } σ H
theorem aL:uT X [] Js:=fun _ _ σ H _ I h=>wpAny_execs_nil ⟨σ,H,I,h⟩
theorem ak {X:Cx} {st:Stmt} {rest:List Stmt} {t u:TS} (h1:PS X st t) (h2:uT X rest u):uT X (st::rest) (Hz t u):=by
 intro aq s σ H D I h
 refine wpAny_execs_cons (cI (h1 aq s σ H { D with nx:=u D } I h) fun f s1 q=>?_)
 cases f with
 | next=>
   obtain ⟨σ',H',I',q⟩:=q
   exact h2 aq s1 σ' H' D I' q
 |ret v=>exact q
 |brk=>exact q
 |cont=>exact q
theorem aB {X:Cx} {st:Stmt} {t:TS} (h1:PS X st t):uT X [st] t:=by
 intro aq s σ H D I h
 refine wpAny_execs_cons (cI (h1 aq s σ H D I h) fun f s1 q=>?_)
 cases f with
 |next=>exact wpAny_execs_nil q
 |ret v=>exact q
 |brk=>exact q
 |cont=>exact q
theorem Inv.quiet (I:Inv X aq σ H s):interactive X.env=false:=by simp [interactive,I.ok.kind]
noncomputable def J2 (te:TE):TS:=fun D σ H=>te σ H fun _ H1=>D.nx σ H1
theorem cJ {X:Cx} {pos:Pos} (he:PE X e te) (hs:swapsWith e none pos.line X.env=pure false:=by rfl):PS X (.Expr e pos) (J2 te):=by
 intro aq s σ H D I h
 exact wpAny_Expr_any (cI (he aq s σ H _ I h) fun v s1 ⟨x,H1,I1,r1,q1⟩=>⟨σ,H1,I1,q1⟩) I.quiet hs
noncomputable def Pg (te:TE):TS:=fun D σ H=>te σ H D.rt
theorem aJ (he:PE X e te):PS X (.Return (some e) pos) (Pg te):=by
 intro aq s σ H D I h
 exact wpAny_Return_some (cI (he aq s σ H _ I h) fun v s1 ⟨x,H1,I1,r1,q1⟩=>⟨x,σ,H1,I1,r1,q1⟩)
noncomputable def K4 (c:TT) (t u:TS):TS:=fun D σ H=>c σ H fun b H1=>if b=true then t D σ H1 else u D σ H1
theorem a_ {c:Expr} {a b:List Stmt} {tc:TT} (hc:PT X c tc) (ha:uT X a t) (hb:uT X b u):PS X (.If c a b pos) (K4 tc t u):=by
 intro aq s σ H D I h
 refine wpAny_If (cI (hc aq s σ H _ I h) fun d s1 ⟨H1,I1,q1⟩=>?_)
 cases d with
 |true=>exact ha aq s1 σ H1 D I1 q1
 |false=>exact hb aq s1 σ H1 D I1 q1
noncomputable def Fb:TS:=fun _ _ _=>False
theorem d9 {X:Cx} {st:Stmt}:PS X st Fb:=fun _ _ _ _ _ _ h=>h.elim
noncomputable abbrev TG:=V->St->Hp->(St->Hp->Prop)->Prop
noncomputable abbrev Ia:=List V->St->Hp->(St->Hp->Prop)->Prop
noncomputable def PG (X:Cx) (target:Expr) (t:TG):Prop:=
 ∀ (aq:List (Addr×Obj)) (s:Shared) (σ:St) (H:Hp) (v:V) (u:Value) (Q:St->Hp->Prop),Inv X aq σ H s->RelV v u->t v σ H Q->
   wpAny (model X.prog X.w) X.A (assign target X.env u) (fun _ s'=>∃ σ' H',Inv X aq σ' H' s'/\Q σ' H') X.xe s
noncomputable def Mj (X:Cx) (ts:List Expr) (t:Ia):Prop:=
 ∀ (aq:List (Addr×Obj)) (s:Shared) (σ:St) (H:Hp) (vs:List V) (us:List Value) (Q:St->Hp->Prop),Inv X aq σ H s->Vals vs us->t vs σ H Q->
   wpAny (model X.prog X.w) X.A (assignInOrder ((assignEach ts X.env).map (·.2)) us) (fun _ s'=>∃ σ' H',Inv X aq σ' H' s'/\Q σ' H') X.xe s
noncomputable abbrev Ft:=V->V->V->Hp->(Hp->Prop)->Prop
noncomputable def Lr (X:Cx) (t:Ft):Prop:=
 ∀ (aq:List (Addr×Obj)) (s:Shared) (σ:St) (H:Hp) (o i v:V) (ov iv u:Value) (Q:Hp->Prop),Inv X aq σ H s->RelV o ov->RelV i iv->RelV v u->t o i v H Q->
   wpAny (model X.prog X.w) X.A (setItem ov iv u) (fun _ s'=>∃ H',Inv X aq σ H' s'/\Q H') X.xe s
noncomputable abbrev O3:=V->V->Hp->VK->Prop
noncomputable def QD (X:Cx) (op:Operator) (t:O3):Prop:=
 ∀ (aq:List (Addr×Obj)) (s:Shared) (σ:St) (H:Hp) (x y:V) (v u:Value) (Q:VK),Inv X aq σ H s->RelV x v->RelV y u->t x y H Q->
   wpAny (model X.prog X.w) X.A (inplaceOp op v u) (EP X aq σ Q) X.xe s
noncomputable def bG (i:Nat):TG:=fun v σ H Q=>Q (σ.set i (some v)) H
theorem aK (hN:X.N.Nodup) (hi:X.N[i]?=some x) (hx:Loc X.env.scope x) (hf:X.fn x=true∨X.env.scope.names.lookup x=some .local:=by first|exact .inl rfl|exact .inr rfl|assumption):PG X (.Name x pos) (bG i):=by
 intro aq s σ H v u Q I r h
 exact wpAny_assign_Name (nP I hN hi hx r (fun s' I'=>⟨_,H,I',h⟩) hf)
noncomputable def HB:Ia:=fun vs σ H Q=>vs=[]/\Q σ H
noncomputable def pB (t:TG) (u:Ia):Ia:=fun vs σ H Q=>∃ v r,vs=v::r/\t v σ H fun σ' H'=>u r σ' H' Q
theorem bY:Mj X [] HB:=by
 intro aq s σ H vs us Q I r h
 obtain ⟨e,h⟩:=h
 subst e
 cases r
 exact assignInOrder_nil ⟨σ,H,I,h⟩
theorem aP {X:Cx} {e:Expr} {es:List Expr} {t:TG} {u:Ia} (h1:PG X e t) (h2:Mj X es u)
 (hs:(assignEach (e::es) X.env).map (·.2)=assign e X.env::(assignEach es X.env).map (·.2):=by rfl):Mj X (e::es) (pB t u):=by
 intro aq s σ H vs us Q I r h
 obtain ⟨v,vr,e1,h⟩:=h
 subst e1
 cases r with
 | cons r rr=>
   rw [hs]
   refine assignInOrder_cons (cI (h1 aq s σ H _ _ _ I r h) fun _ s1 ⟨σ1,H1,I1,q1⟩=>?_)
   exact h2 aq s1 σ1 H1 _ _ Q I1 rr q1
noncomputable def HD (K:PySem.W.Frag) (n:Nat) (t:Ia):TG:=fun v σ H Q=>∃ a xs,v=.ref a/\bD K H a xs/\xs.length=n/\t xs σ H Q
theorem cD (hc:X.calm=true) (h:Mj X es t)
 (hn:(assignEach es X.env).length=n:=by rfl) (hst:(assignEach es X.env).findIdx? (·.1)=none:=by rfl):PG X (.Tuple es k pos) (HD X.K n t):=by
 intro aq s σ H v u Q I r hw
 obtain ⟨a,xs,e1,hq,hl,hw⟩:=hw
 subst e1
 cases r
 obtain ⟨its,rv,ht,hz⟩:=I.tuple hq
 refine assign_Tuple_tuple (I.ok.hd hc) ht (by simp [hn,← hl,rv.length]) hst fun h' hx=>?_
 have I1:Inv X aq σ H { s with heap:=h' }:=I.kept (t':=s.toks) fun b o e=>hx b o (Nat.ne_of_lt (Heap.lt_size e)) e
 exact h aq _ σ H xs _ Q I1 (by simpa using rv) hw
noncomputable def Ox (to ti:TE) (t:Ft):TG:=fun v σ H Q=>to σ H fun o H1=>ti σ H1 fun i H2=>t o i v H2 fun H3=>Q σ H3
theorem oK {X:Cx} {o i:Expr} {to ti:TE} {t:Ft} (ho:PE X o to) (hi:PE X i ti) (hs:Lr X t)
 (ha:∀ v,assign (.Subscript o i pos) X.env v=(do
  let ov ← holding [v] (eval o X.env)
  let iv ← holding [v,ov] (eval i X.env)
  standAt pos
  holding [v,ov,iv] (setItem ov iv v)
  release [v,ov,iv] []):=by intro _;rfl):PG X (.Subscript o i pos) (Ox to ti t):=by
 intro aq s σ H v u Q I r h
 rw [ha]
 refine wpAny_bind (wpAny_holding (cI (ho aq s σ H _ I h) fun ov s1 ⟨x,H1,I1,r1,q1⟩=>?_))
 refine wpAny_bind (wpAny_holding (cI (hi aq s1 σ H1 _ I1 q1) fun iv s2 ⟨y,H2,I2,r2,q2⟩=>?_))
 refine wpAny_bind (wpAny_standAt (wpAny_bind (wpAny_holding (cI (hs aq s2 σ H2 x y v ov iv u _ I2 r1 r2 r q2) fun _ s3 ⟨H3,I3,q3⟩=>?_))))
 exact wpAny_release ⟨σ,H3,I3,q3⟩
noncomputable def Hm (te:TE) (g:TG):TS:=fun D σ H=>te σ H fun x H1=>g x σ H1 D.nx
theorem cM {X:Cx} {pos:Pos} {tg e:Expr} {te:TE} {g:TG} (he:PE X e te) (hg:PG X tg g) (hs:swapsWithSole [tg] e pos.line X.env=pure false:=by rfl) (hw:swappedStores [tg] e X.env=pure none:=by rfl)
 (h1:(assignEach [tg] X.env).map (·.2)=[assign tg X.env]:=by rfl):PS X (.Assign [tg] e pos) (Hm te g):=by
 intro aq s σ H D I h
 refine wpAny_Assign_stores (cI (he aq s σ H _ I h) fun v s1 ⟨x,H1,I1,r1,q1⟩=>?_) hs hw
 rw [h1]
 exact cI (hg aq s1 σ H1 x v _ I1 r1 q1) fun _ s2 q=>q
theorem bc {X:Cx} {pos:Pos} {i:Nat} {x:Str} {e:Expr} {te:TE} {pos':Pos} (hN:X.N.Nodup) (hi:X.N[i]?=some x) (hx:Loc X.env.scope x) (he:PE X e te) (hs:swapsWith e (some (.Name x pos')) pos.line X.env=pure false:=by rfl) (hf:X.fn x=true∨X.env.scope.names.lookup x=some .local:=by first|exact .inl rfl|exact .inr rfl|assumption) :
 PS X (.Assign [.Name x pos'] e pos) (Hm te (bG i)):=by
 intro aq s σ H D I h
 refine wpAny_Assign_Name (cI (he aq s σ H _ I h) fun v s1 ⟨y,H1,I1,r1,q1⟩=>?_) hs
 exact nP I1 hN hi hx r1 (fun s2 I2=>⟨_,H1,I2,q1⟩) hf
noncomputable def MK (i:Nat) (te:TE) (ti:O3):TS:=fun D σ H=>∃ x,σ[i]?=some (some x)/\te σ H fun y H1=>ti x y H1 fun z H2=>D.nx (σ.set i (some z)) H2
theorem HQ {X:Cx} {i:Nat} {x:Str} {e:Expr} {te:TE} {op:Operator} {ti:O3} {pos':Pos} (hN:X.N.Nodup) (hi:X.N[i]?=some x) (hx:Loc X.env.scope x) (he:PE X e te) (ho:QD X op ti) (hf:X.fn x=true∨X.env.scope.names.lookup x=some .local:=by first|exact .inl rfl|exact .inr rfl|assumption) :
 PS X (.AugAssign (.Name x pos') op e pos) (MK i te ti):=by
 intro aq s σ H D I h
 obtain ⟨v,e1,h⟩:=h
 obtain ⟨m,hn,hl⟩:=I.loc
 have vis:Jg X.env.scope x:=by rcases hx with k|k;exact .inl k;exact .inr (.inl k)
 obtain ⟨u,r,l⟩:=hl i x v hi e1 vis
 refine wpAny_AugAssign_Name ?_
 have go:wpAny (model X.prog X.w) X.A (eval e X.env) (fun w s₂=>wpAny (model X.prog X.w) X.A (inplaceOp op u w) (fun r s₃=>wpAny (model X.prog X.w) X.A (storeName X.env x r) (fun _=>SP X aq D .next) X.xe s₃) X.xe s₂) X.xe s:=by
  refine cI (he aq s σ H _ I h) fun w s1 ⟨y,H1,I1,r1,q1⟩=>?_
  refine cI (ho aq s1 σ H1 v y u w _ I1 r r1 q1) fun z s2 ⟨zv,H2,I2,r2,q2⟩=>?_
  exact nP I2 hN hi hx r2 (fun s3 I3=>⟨_,H2,I3,q2⟩) hf
 rcases l with ⟨hk,hm⟩|⟨hk,c,hc,hcell⟩
 ·exact wpAny_loadName_local I.ok.kind hk hn hm go
 ·rcases hk with hk|hk
  ·exact wpAny_loadName_cell I.ok.kind hk hc hcell go
  ·rcases hx with k|k
   ·have:X.env.scope.names.lookup x=some .free:=hk
    rw [k] at this;cases this
   ·have:X.env.scope.names.lookup x=some .free:=hk
    rw [k] at this;cases this
noncomputable def zX (c:TT) (tb:TS):TS:=fun D σ H=>∃ W:Nat->St->Hp->Prop,(∃ m,W m σ H)/\∀ m σ H,W m σ H->
 c σ H fun b H1=>if b=true then ∃ N:St->Hp->Prop,(∀ σ' H',N σ' H'->∃ m',m'<m/\W m' σ' H')/\tb { D with nx:=N,ct:=N,bk:=D.nx } σ H1 else D.nx σ H1
theorem zN {X:Cx} {c:Expr} {body:List Stmt} {tc:TT} {tb:TS} (hp:PassesOwn (model X.prog X.w) X.A X.env X.xe) (hc:PT X c tc) (hb:uT X body tb):PS X (.While c body [] pos) (zX tc tb):=by
 intro aq s σ H D I h
 obtain ⟨W,⟨m0,w0⟩,turn⟩:=h
 refine wpAny_While (codeAny_whileLoop (fun n s'=>∃ σ' H',Inv X aq σ' H' s'/\W n σ' H') ?_ m0 ⟨σ,H,I,w0⟩)
 rintro n s1 ⟨σ1,H1,I1,w1⟩
 refine wpAny_passesOwn hp (cI (hc aq s1 σ1 H1 _ I1 (turn n σ1 H1 w1)) fun b s2 ⟨H2,I2,q2⟩=>?_)
 cases b with
 | true=>
   obtain ⟨N,hN,q2⟩:=q2
   rw [if_pos rfl]
   refine wpAny_passesOwn hp (cI (hb aq s2 σ1 H2 _ I2 q2) fun f s3 q3=>?_)
   cases f with
   | next=>
     obtain ⟨σ3,H3,I3,n3⟩:=q3
     obtain ⟨m',hm,w3⟩:=hN σ3 H3 n3
     exact ⟨m',hm,σ3,H3,I3,w3⟩
   | cont=>
     obtain ⟨σ3,H3,I3,n3⟩:=q3
     obtain ⟨m',hm,w3⟩:=hN σ3 H3 n3
     exact ⟨m',hm,σ3,H3,I3,w3⟩
   |brk=>exact q3
   |ret v=>exact q3
 | false=>
   rw [if_neg Bool.false_ne_true]
   exact wpAny_execs_nil ⟨σ1,H2,I2,q2⟩
structure It where
 go:Nat->Hp->Prop
 yld:Nat->Hp->V->Hp->Prop
 stop:Nat->Hp->Prop
noncomputable def kE (X:Cx) (aq:List (Addr×Obj)) (H:Hp) (b:Addr):Prop:=
 H b=none/\b≠X.env.locals/\b∉X.fs/\(b∈X.ex∨X.s₀.heap.objs.size≤b)/\(∀ x c,X.env.cells.lookup x=some c->c≠b)/\∀ p∈X.pn++aq,p.1≠b
theorem Inv.fpOk (I:Inv X aq σ H s) (hb:s.heap.objs.size≤b) (hn:H' b=none):kE X aq H' b:=by
 refine ⟨hn,Nat.ne_of_gt (Nat.lt_of_lt_of_le I.lt hb),I.nofs hb,.inr (Nat.le_trans I.sz hb),fun x c e z=>?_,fun p hp z=>?_⟩
 ·obtain ⟨v,q⟩:=I.cell x c e
  exact absurd (Nat.lt_of_lt_of_le q.lt (by rw [z];exact hb)) (Nat.lt_irrefl _)
 ·exact absurd (Nat.lt_of_lt_of_le (Heap.lt_size (I.pin p hp).1) (by rw [z];exact hb)) (Nat.lt_irrefl _)
structure Turn (P:Program) (w:World) (K:PySem.W.Frag) (tg:Expr) (J:It) (fp:List Addr) (it:Addr) (tn:Nat->Heap->Prop):Prop where
 mem:it∈fp
 obj:∀ i h,tn i h->∀ b∈fp,∃ o,h.get? b=some o/\∀ v,o.data≠.cell v
 keep:∀ i h h',tn i h->(∀ b∈fp,∀ o,h.get? b=some o->h'.get? b=some o)->tn i h'
 item:∀ (X:Cx),X.prog=P->X.w=w->X.K=K->X.calm=true->∀ (i:Nat) (aq:List (Addr×Obj)) (s:Shared) (σ:St) (H:Hp) (E:Value->Shared->Prop),Inv X aq σ H s->(∀ b∈fp,kE X aq H b)->tn i s.heap->J.go i H->
  wpAny (model P w) X.A (pyNext (.ref it)) (fun r s1=>∃ u,r=some u/\
   wpAny (model P w) X.A (letOwnedTupleGo tg (.ref it) u) (fun _ s2=>∃ x H',Inv X aq σ H' s2/\RelV x u/\J.yld i H x H'/\tn (i+1) s2.heap/\∀ b∈fp,H' b=none) E s1) E s
 done:∀ (X:Cx),X.prog=P->X.w=w->X.K=K->X.calm=true->∀ (i:Nat) (aq:List (Addr×Obj)) (s:Shared) (σ:St) (H:Hp) (E:Value->Shared->Prop),Inv X aq σ H s->(∀ b∈fp,kE X aq H b)->tn i s.heap->J.stop i H->
  wpAny (model P w) X.A (pyNext (.ref it)) (fun r s1=>r=none/\Inv X aq σ H s1) E s
 self:∀ (A:Around) (i:Nat) (s:Shared) (Q:Value->Shared->Prop) (E:Value->Shared->Prop),tn i s.heap->Q (.ref it) s->wpAny (model P w) A (pyIter (.ref it)) Q E s
noncomputable abbrev TI:=St->Hp->(It->Hp->Prop)->Prop
noncomputable def PIE (X:Cx) (aq:List (Addr×Obj)) (σ:St) (tg:Expr) (R:It->Hp->Prop) (itv:Value) (s2:Shared):Prop:=
 ∃ (it:Addr) (fp:List Addr) (tn:Nat->Heap->Prop) (J:It) (H':Hp),itv=.ref it/\Inv X aq σ H' s2/\Turn X.prog X.w X.K tg J fp it tn/\tn 0 s2.heap/\(∀ b∈fp,kE X aq H' b)/\R J H'
noncomputable def PI (X:Cx) (tg iter:Expr) (wi:TI):Prop:=
 ∀ (aq:List (Addr×Obj)) (s:Shared) (σ:St) (H:Hp) (R:It->Hp->Prop),Inv X aq σ H s->wi σ H R->
   wpAny (model X.prog X.w) X.A (eval iter X.env) (fun v s1=>wpAny (model X.prog X.w) X.A (pyIter v) (PIE X aq σ tg R) X.xe s1) X.xe s
theorem sr (ho:s.heap.get? it=some o) (hc:o.cls=.type n) (hd:o.data=.fields vs)
 (hn:["enumerate","zip","dict_itemiterator","dict_reverseitemiterator","odict_iterator","itertools.zip_longest","itertools.pairwise"].contains n=false) (hQ:Q () s):wpAny M A (letOwnedTupleGo tg (.ref it) u) Q E s:=by
 unfold letOwnedTupleGo
 cases tg <;> first
  |exact wpAny_pure hQ
  |(cases u <;> first
   |exact wpAny_pure hQ
   | (refine wpAny_bind (wpAny_load ho ?_)
      rw [hc,hd]
      show wpAny M A (if (["enumerate","zip","dict_itemiterator","dict_reverseitemiterator","odict_iterator","itertools.zip_longest","itertools.pairwise"].contains n && vs[0]? == some (rawInt _))=true then _ else _) Q E s
      rw [if_neg (by intro h;rw [hn,Bool.false_and] at h;cases h)]
      exact wpAny_pure hQ))
noncomputable def Hy (K:PySem.W.Frag) (a:Addr):It:=
 ⟨fun i H=>∃ xs x,bF K H a xs/\xs[i]?=some x,fun i H x H'=>H'=H/\∀ xs,bF K H a xs->xs[i]?=some x,fun i H=>∃ xs,bF K H a xs/\xs.length≤i⟩
noncomputable def Fz (K:PySem.W.Frag) (a:Addr):It:=
 ⟨fun i H=>∃ xs x,bD K H a xs/\xs[i]?=some x,fun i H x H'=>H'=H/\∀ xs,bD K H a xs->xs[i]?=some x,fun i H=>∃ xs,bD K H a xs/\xs.length≤i⟩
noncomputable def De (lo:Int) (n:Nat):It:=⟨fun i _=>i<n,fun i H x H'=>H'=H/\x=.int (lo+i),fun i _=>n≤i⟩
theorem vN {P:Program} {w:World} {K:PySem.W.Frag} {tg:Expr} (a it:Addr):Turn P w K tg (Hy K a) [it] it (fun i h=>h.IsListIter it a i) where
 mem:=by simp
 obj:=fun i h st b hb=>by
  have e:b=it:=by simpa using hb
  subst e
  obtain ⟨o,e,c,d⟩:=st
  exact ⟨o,e,fun v z=>by rw [d] at z;cases z⟩
 keep:=fun i h h' st k=>st.at fun o e=>k it (by simp) o e
 item:=by
  intro X hP hw hK hc i aq s σ H E I hf st hg
  subst hP hw hK
  obtain ⟨xs,x,hq,hx⟩:=hg
  obtain ⟨its,rv,p,hz⟩:=I.list hq
  obtain ⟨u,hu,ru⟩:=rv.get hx
  obtain ⟨f0,f1,f2,f3,f4,f5⟩:=hf it (by simp)
  refine wpAny_pyNext_list_item st p.isList (x:=u) (by simpa using hu) fun h' st' sb=>?_
  have I1:Inv X aq σ H { s with heap:=h' }:=I.turned (t':=s.toks) (fun b o hb e=>(sb.2 b hb).trans e) f0 f1 f3 f4 f5
  obtain ⟨o,e,c,d⟩:=id st'
  exact ⟨u,rfl,sr (s:={ s with heap:=h' }) e c d (by decide) ⟨x,H,I1,ru,⟨rfl,fun ys hy=>by rw [I.list_inj hy hq];exact hx⟩,st',fun b hb=>(hf b hb).1⟩⟩
 done:=by
  intro X hP hw hK hc i aq s σ H E I hf st hg
  subst hP hw hK
  obtain ⟨xs,hq,hx⟩:=hg
  obtain ⟨its,rv,p,hz⟩:=I.list hq
  obtain ⟨f0,f1,f2,f3,f4,f5⟩:=hf it (by simp)
  have hl:=rv.length
  exact wpAny_pyNext_list_end (I.ok.hd hc) st p.isList (by simp;lia) fun h' eb=>⟨rfl,I.turned (t':=s.toks) (fun b o hb e=>eb b o hb e) f0 f1 f3 f4 f5⟩
 self:=fun _ _ _ _ _ st h=>wpAny_pyIter_listiter st h
theorem tQ {P:Program} {w:World} {K:PySem.W.Frag} {tg:Expr} (a it:Addr):Turn P w K tg (Fz K a) [it] it (fun i h=>h.IsTupleIter it a i) where
 mem:=by simp
 obj:=fun i h st b hb=>by
  have e:b=it:=by simpa using hb
  subst e
  obtain ⟨o,e,c,d⟩:=st
  exact ⟨o,e,fun v z=>by rw [d] at z;cases z⟩
 keep:=fun i h h' st k=>st.at fun o e=>k it (by simp) o e
 item:=by
  intro X hP hw hK hc i aq s σ H E I hf st hg
  subst hP hw hK
  obtain ⟨xs,x,hq,hx⟩:=hg
  obtain ⟨its,rv,p,hz⟩:=I.tuple hq
  obtain ⟨u,hu,ru⟩:=rv.get hx
  obtain ⟨f0,f1,f2,f3,f4,f5⟩:=hf it (by simp)
  refine wpAny_pyNext_tuple_item st (show s.heap.IsTuple a its.toArray from p) (x:=u) (by simpa using hu) fun h' st' sb=>?_
  have I1:Inv X aq σ H { s with heap:=h' }:=I.turned (t':=s.toks) (fun b o hb e=>(sb.2 b hb).trans e) f0 f1 f3 f4 f5
  obtain ⟨o,e,c,d⟩:=id st'
  exact ⟨u,rfl,sr (s:={ s with heap:=h' }) e c d (by decide) ⟨x,H,I1,ru,⟨rfl,fun ys hy=>by rw [I.tuple_inj hy hq];exact hx⟩,st',fun b hb=>(hf b hb).1⟩⟩
 done:=by
  intro X hP hw hK hc i aq s σ H E I hf st hg
  subst hP hw hK
  obtain ⟨xs,hq,hx⟩:=hg
  obtain ⟨its,rv,p,hz⟩:=I.tuple hq
  obtain ⟨f0,f1,f2,f3,f4,f5⟩:=hf it (by simp)
  have hl:=rv.length
  exact wpAny_pyNext_tuple_end (I.ok.hd hc) st (show s.heap.IsTuple a its.toArray from p) (by simp;lia) fun h' eb=>⟨rfl,I.turned (t':=s.toks) (fun b o hb e=>eb b o hb e) f0 f1 f3 f4 f5⟩
 self:=fun _ _ _ _ _ st h=>wpAny_pyIter_tupleiter st h
theorem sU {P:Program} {w:World} {K:PySem.W.Frag} {tg:Expr} (it:Addr) (lo:Int) (n:Nat):Turn P w K tg (De lo n) [it] it (fun i h=>IsRangeIter h it (lo+(i:Nat)*1) ((n:Int)-(i:Nat)) 1) where
 mem:=by simp
 obj:=fun i h st b hb=>by
  have e:b=it:=by simpa using hb
  subst e
  exact ⟨_,st,fun v z=>by
   have z':Data.fields _=Data.cell v:=z
   cases z'⟩
 keep:=fun i h h' st k=>k it (by simp) _ st
 item:=by
  intro X hP hw hK hc i aq s σ H E I hf st hg
  subst hP hw hK
  obtain ⟨f0,f1,f2,f3,f4,f5⟩:=hf it (by simp)
  have W:=Walks.range (prog:=X.prog) (w:=X.w) (I.ok.hd hc) it lo 1 n
  refine W.item i s _ _ hg st fun v h' tk hv st' kk=>?_
  obtain ⟨t,rfl⟩:=hv
  have I1:Inv X aq σ H { s with heap:=h',toks:=tk }:=I.turned (fun b o hb e=>kk b o (by simpa using hb) e) f0 f1 f3 f4 f5
  refine ⟨_,rfl,sr (s:={ s with heap:=h',toks:=tk }) (n:="range_iterator") st' rfl rfl (by decide) ⟨.int (lo+i),H,I1,⟨t,?_⟩,⟨rfl,rfl⟩,st',fun b hb=>(hf b hb).1⟩⟩
  rw [Int.mul_one]
 done:=by
  intro X hP hw hK hc i aq s σ H E I hf st hg
  subst hP hw hK
  obtain ⟨f0,f1,f2,f3,f4,f5⟩:=hf it (by simp)
  exact wpAny_pyNext_range_end (I.ok.hd hc) st (by have:n≤i:=hg;lia) fun h' eb=>⟨rfl,I.turned (t':=s.toks) (fun b o hb e=>eb b o hb e) f0 f1 f3 f4 f5⟩
 self:=fun _ _ _ _ _ st h=>wpAny_pyIter_rangeiter st h
noncomputable def Kl (K:PySem.W.Frag) (tl:TE):TI:=fun σ H R=>tl σ H fun x H1=>∃ a,x=.ref a/\(∃ xs,bF K H1 a xs)/\R (Hy K a) H1
noncomputable def Og (K:PySem.W.Frag) (tl:TE):TI:=fun σ H R=>tl σ H fun x H1=>∃ a,x=.ref a/\(∃ xs,bD K H1 a xs)/\R (Fz K a) H1
theorem iQ {X:Cx} {l:Expr} {tl:TE} (hl:PE X l tl):PI X tg l (Kl X.K tl):=by
 intro aq s σ H R I h
 refine cI (hl aq s σ H _ I h) fun v s1 ⟨x,H1,I1,r1,q1⟩=>?_
 obtain ⟨a,e,⟨xs,hq⟩,q⟩:=q1
 subst e
 cases r1
 obtain ⟨its,rv,p,hz⟩:=I1.list hq
 refine wpAny_pyIter_list p.isList ?_
 refine ⟨s1.heap.objs.size,[s1.heap.objs.size],_,_,H1,rfl,I1.kept (t':=s1.toks) fun b o e=>Heap.get?_push_of_some _ e,vN a _,⟨_,Heap.get?_push_size _ rfl,rfl,rfl⟩,fun b hb=>?_,q⟩
 have e:b=s1.heap.objs.size:=by simpa using hb
 subst e
 exact I1.fpOk (Nat.le_refl _) (I1.hok.fresh (Nat.le_refl _))
theorem iB {X:Cx} {l:Expr} {tl:TE} (hl:PE X l tl):PI X tg l (Og X.K tl):=by
 intro aq s σ H R I h
 refine cI (hl aq s σ H _ I h) fun v s1 ⟨x,H1,I1,r1,q1⟩=>?_
 obtain ⟨a,e,⟨xs,hq⟩,q⟩:=q1
 subst e
 cases r1
 obtain ⟨its,rv,p,hz⟩:=I1.tuple hq
 refine wpAny_pyIter_tuple (show s1.heap.IsTuple a its.toArray from p) ?_
 refine ⟨s1.heap.objs.size,[s1.heap.objs.size],_,_,H1,rfl,I1.kept (t':=s1.toks) fun b o e=>Heap.get?_push_of_some _ e,tQ a _,⟨_,Heap.get?_push_size _ rfl,rfl,rfl⟩,fun b hb=>?_,q⟩
 have e:b=s1.heap.objs.size:=by simpa using hb
 subst e
 exact I1.fpOk (Nat.le_refl _) (I1.hok.fresh (Nat.le_refl _))
theorem xY {X:Cx} {aq:List (Addr×Obj)} {σ:St} {H:Hp} {s:Shared} {R:It->Hp->Prop} {E:Value->Shared->Prop} {lo hi:Int} {t u v:Tok} {tk:Nat} (I:Inv X aq σ H s) (h1:-(2 ^ 62)≤lo) (h2:lo<2 ^ 62) (h3:-(2 ^ 62)≤hi) (h4:hi<2 ^ 62)
 (q:R (De lo (hi-lo).toNat) H):wpAny (model X.prog X.w) X.A (pyIter (.ref s.heap.objs.size)) (PIE X aq σ tg R) E { s with heap:=s.heap.push { cls:=.type "range",data:=.fields #[.int lo t,.int hi u,.int 1 v] },toks:=tk }:=by
 refine wpAny_pyIter_range (IsRange.new ..) (small_one h1 h2 h3 h4) ?_
 have I1:Inv X aq σ H { s with heap:=s.heap.push { cls:=.type "range",data:=.fields #[.int lo t,.int hi u,.int 1 v] },toks:=tk }:=I.kept fun b o e=>Heap.get?_push_of_some _ e
 refine ⟨(s.heap.push { cls:=.type "range",data:=.fields #[.int lo t,.int hi u,.int 1 v] }).objs.size,[(s.heap.push { cls:=.type "range",data:=.fields #[.int lo t,.int hi u,.int 1 v] }).objs.size],_,_,H,rfl,
  I1.kept (t':=tk) fun b o e=>Heap.get?_push_of_some _ e,sU _ lo (hi-lo).toNat,?_,fun b hb=>?_,q⟩
 ·have e1:lo+((0:Nat):Int)*1=lo:=by simp
  have e2:(((hi-lo).toNat:Nat):Int)-((0:Nat):Int)=Builtin.Range.rangeSize lo hi 1:=by rw [rangeSize_one];split <;> lia
  show IsRangeIter _ _ (lo+((0:Nat):Int)*1) ((((hi-lo).toNat:Nat):Int)-((0:Nat):Int)) 1
  rw [e1,e2]
  exact Heap.get?_push_size _ rfl
 ·have e:b=(s.heap.push { cls:=.type "range",data:=.fields #[.int lo t,.int hi u,.int 1 v] }).objs.size:=by simpa using hb
  subst e
  exact I1.fpOk (Nat.le_refl _) (I1.hok.fresh (Nat.le_refl _))
noncomputable def KN (ta:TA):TI:=fun σ H R=>ta σ H fun vs H1=>∃ j:Int,vs=[.int j]/\-(2 ^ 62)≤j/\j<2 ^ 62/\R (De 0 j.toNat) H1
theorem dG {X:Cx} {a:Expr} {ta:TA} {p pos:Pos} (hg:Gl X "range") (hm:X.mg "range" = none) (ha:PA X [a] ta) (hs:starEach [a] X.env=[(false,eval a X.env)]:=by rfl):PI X tg (.Call (.Name "range" p) [a] [] pos) (KN ta):=by
 intro aq s σ H R I h
 refine Call_ (gG I hg hm boot_range (PyProof.Rows.callWith_type1 (cI (ha pos aq s σ H _ I h) fun us s1 ⟨vs,H1,I1,r1,q1⟩=>?_) hs rfl))
 obtain ⟨j,e,q1,q2,q⟩:=q1
 subst e
 cases r1 with
 | cons r rr=>
   cases rr
   obtain ⟨t,rfl⟩:=r
   exact call_range_1 (xY I1 (by lia) (by lia) q1 q2 (by simpa using q))
noncomputable def O7 (wi:TI) (g:TG) (tb:TS):TS:=fun D σ H=>wi σ H fun J H1=>∃ W:Nat->Nat->St->Hp->Prop,(∃ m,W 0 m σ H1)/\∀ i m σ H,W i m σ H->
 (J.stop i H/\D.nx σ H)∨(J.go i H/\∃ N:St->Hp->Prop,(∀ σ' H',N σ' H'->∃ m',m'<m/\W (i+1) m' σ' H')/\∀ x H',J.yld i H x H'->g x σ H' fun σ2 H2=>tb { D with nx:=N,ct:=N,bk:=D.nx } σ2 H2)
noncomputable def oH (fp:List Addr) (h:Heap):List (Addr×Obj):=fp.filterMap fun b=>(h.get? b).map fun o=>(b,o)
theorem iU (hb:b∈fp) (e:h.get? b=some o):(b,o)∈oH fp h:=List.mem_filterMap.mpr ⟨b,hb,by rw [e];rfl⟩
theorem xg (hp:p∈oH fp h):p.1∈fp/\h.get? p.1=some p.2:=by
 obtain ⟨b,hb,e⟩:=List.mem_filterMap.mp hp
 cases q:h.get? b with
 |none=>rw [q] at e;cases e
 | some o=>
   rw [q] at e
   have e':(b,o)=p:=Option.some.inj e
   subst e'
   exact ⟨hb,q⟩
theorem Inv.pinned (I:Inv X aq σ H s) (hf:∀ b∈fp,kE X aq H b) (ho:∀ b∈fp,∃ o,s.heap.get? b=some o/\∀ v,o.data≠.cell v):Inv X (aq++oH fp s.heap) σ H s:=
 I.pins_of fun p hp=>(List.mem_append.mp hp).elim (fun z=>I.pin p (List.mem_append_right _ z)) fun z=>by
  obtain ⟨hb,e⟩:=xg z
  obtain ⟨f0,f1,f2,_⟩:=hf p.1 hb
  obtain ⟨o,e',d⟩:=ho p.1 hb
  rw [e] at e';cases e'
  exact ⟨e,f0,f1,f2,d⟩
theorem Inv.unpinned (I:Inv X (aq++pl) σ H s):Inv X aq σ H s:=I.pins_of fun p hp=>I.pin p (List.mem_append_right _ (List.mem_append_left _ hp))
theorem dH {X:Cx} {iter:Expr} {body:List Stmt} {wi:TI} {g:TG} {tb:TS} {pos:Pos} (hp:PassesOwn (model X.prog X.w) X.A X.env X.xe) (hc:X.calm=true) (hi:PI X tg iter wi) (hg:PG X tg g) (hb:uT X body tb)
 (hs:∀ x,foldedSetIterable iter X.env x=pure x:=by intro _;rfl):PS X (.For tg iter body [] pos) (O7 wi g tb):=by
 intro aq s σ H D I h
 refine wpAny_For (cI (hi aq s σ H _ I h) fun v s1 h1=>cI h1 fun itv s2 h2=>?_) hs
 obtain ⟨it,fp,tn,J,H2,e,I2,T,st2,f2,W,⟨m0,w0⟩,turn⟩:=h2
 subst e
 have stat:∀ {H':Hp},(∀ b∈fp,H' b=none)->∀ b∈fp,kE X aq H' b:=fun hn b hb=>⟨hn b hb,(f2 b hb).2⟩
 refine codeAny_forLoop_any (fun n s'=>∃ i σ' H',Inv X aq σ' H' s'/\tn i s'.heap/\(∀ b∈fp,H' b=none)/\W i n σ' H') ?_ m0 ⟨0,σ,H2,I2,st2,fun b hb=>(f2 b hb).1,w0⟩
 rintro n s3 ⟨i,σ3,H3,I3,st3,fr3,w3⟩
 rcases turn i n σ3 H3 w3 with ⟨stop,qn⟩|⟨go,N,hN,step⟩
 ·refine wpAny_passesOwn hp (cI (T.done X rfl rfl rfl hc i aq s3 σ3 H3 X.xe I3 (stat fr3) st3 stop) fun r s4 ⟨hr,I4⟩=>?_)
  subst hr
  exact wpAny_execs_nil ⟨σ3,H3,I4,qn⟩
 ·refine wpAny_passesOwn hp (cI (T.item X rfl rfl rfl hc i aq s3 σ3 H3 X.xe I3 (stat fr3) st3 go) fun r s4 ⟨u,hr,h4⟩=>?_)
  subst hr
  refine wpAny_passesOwn hp (cI h4 fun _ s5 ⟨x,H5,I5,r5,y5,st5,fr5⟩=>?_)
  have I5':=I5.pinned (stat fr5) (T.obj _ _ st5)
  refine wpAny_passesOwn hp (cI (hg _ s5 σ3 H5 x u _ I5' r5 (step x H5 y5)) fun _ s6 ⟨σ6,H6,I6,q6⟩=>?_)
  refine wpAny_passesOwn hp (cI (hb _ s6 σ6 H6 _ I6 q6) fun f s7 q7=>?_)
  have again:∀ {σ7:St} {H7:Hp},Inv X (aq++oH fp s5.heap) σ7 H7 s7->N σ7 H7->∃ m,m<n/\∃ i σ' H',Inv X aq σ' H' s7/\tn i s7.heap/\(∀ b∈fp,H' b=none)/\W i m σ' H':=fun {σ7 H7} I7 n7=>by
   obtain ⟨m',hm,w7⟩:=hN σ7 H7 n7
   refine ⟨m',hm,i+1,σ7,H7,I7.unpinned,T.keep _ _ _ st5 fun b hb o e=>(I7.pin (b,o) (List.mem_append_right _ (List.mem_append_right _ (iU hb e)))).1,fun b hb=>?_,w7⟩
   obtain ⟨o,e,d⟩:=T.obj _ _ st5 b hb
   exact (I7.pin (b,o) (List.mem_append_right _ (List.mem_append_right _ (iU hb e)))).2.1
  cases f with
  |next=>obtain ⟨σ7,H7,I7,n7⟩:=q7;exact again I7 n7
  |cont=>obtain ⟨σ7,H7,I7,n7⟩:=q7;exact again I7 n7
  |brk=>obtain ⟨σ7,H7,I7,q7⟩:=q7;exact ⟨σ7,H7,I7.unpinned,q7⟩
  |ret v=>obtain ⟨x7,σ7,H7,I7,r7,q7⟩:=q7;exact ⟨x7,σ7,H7,I7.unpinned,r7,q7⟩
theorem rC {K:PySem.W.Frag} {a:Addr} {xs:List V} {g:TG} {tb:TS} {D:Ends} {σ:St} {H:Hp} (Pv:Nat->St->Hp->Prop) (h0:Pv 0 σ H) (hl:∀ i σ H,i≤xs.length->Pv i σ H->bF K H a xs)
 (hs:∀ i x σ H,xs[i]?=some x->Pv i σ H->g x σ H fun σ2 H2=>tb { D with nx:=Pv (i+1),ct:=Pv (i+1),bk:=D.nx } σ2 H2) (hd:∀ σ H,Pv xs.length σ H->D.nx σ H) :
 ∃ W:Nat->Nat->St->Hp->Prop,(∃ m,W 0 m σ H)/\∀ i m σ H,W i m σ H->
   ((Hy K a).stop i H/\D.nx σ H)∨((Hy K a).go i H/\∃ N:St->Hp->Prop,(∀ σ' H',N σ' H'->∃ m',m'<m/\W (i+1) m' σ' H')/\∀ x H',(Hy K a).yld i H x H'->g x σ H' fun σ2 H2=>tb { D with nx:=N,ct:=N,bk:=D.nx } σ2 H2):=by
 refine ⟨fun i m σ H=>m=xs.length-i/\i≤xs.length/\Pv i σ H,⟨xs.length,by simp,Nat.zero_le _,h0⟩,?_⟩
 rintro i m σ H ⟨rfl,hi,p⟩
 have q:=hl i σ H hi p
 by_cases hlt:i<xs.length
 ·refine .inr ⟨⟨xs,xs[i],q,by simp [hlt]⟩,Pv (i+1),fun σ' H' p'=>⟨xs.length-(i+1),by lia,rfl,hlt,p'⟩,fun x H' y=>?_⟩
  obtain ⟨e,y⟩:=y
  subst e
  exact hs i x σ _ (y xs q) p
 ·have e:i=xs.length:=by lia
  subst e
  exact .inl ⟨⟨xs,q,Nat.le_refl _⟩,hd σ H p⟩
theorem mW {K:PySem.W.Frag} {a:Addr} {xs:List V} {g:TG} {tb:TS} {D:Ends} {σ:St} {H:Hp} (Pv:Nat->St->Hp->Prop) (h0:Pv 0 σ H) (hl:∀ i σ H,i≤xs.length->Pv i σ H->bD K H a xs)
 (hs:∀ i x σ H,xs[i]?=some x->Pv i σ H->g x σ H fun σ2 H2=>tb { D with nx:=Pv (i+1),ct:=Pv (i+1),bk:=D.nx } σ2 H2) (hd:∀ σ H,Pv xs.length σ H->D.nx σ H) :
 ∃ W:Nat->Nat->St->Hp->Prop,(∃ m,W 0 m σ H)/\∀ i m σ H,W i m σ H->
   ((Fz K a).stop i H/\D.nx σ H)∨((Fz K a).go i H/\∃ N:St->Hp->Prop,(∀ σ' H',N σ' H'->∃ m',m'<m/\W (i+1) m' σ' H')/\∀ x H',(Fz K a).yld i H x H'->g x σ H' fun σ2 H2=>tb { D with nx:=N,ct:=N,bk:=D.nx } σ2 H2):=by
 refine ⟨fun i m σ H=>m=xs.length-i/\i≤xs.length/\Pv i σ H,⟨xs.length,by simp,Nat.zero_le _,h0⟩,?_⟩
 rintro i m σ H ⟨rfl,hi,p⟩
 have q:=hl i σ H hi p
 by_cases hlt:i<xs.length
 ·refine .inr ⟨⟨xs,xs[i],q,by simp [hlt]⟩,Pv (i+1),fun σ' H' p'=>⟨xs.length-(i+1),by lia,rfl,hlt,p'⟩,fun x H' y=>?_⟩
  obtain ⟨e,y⟩:=y
  subst e
  exact hs i x σ _ (y xs q) p
 ·have e:i=xs.length:=by lia
  subst e
  exact .inl ⟨⟨xs,q,Nat.le_refl _⟩,hd σ H p⟩
theorem fZ {lo:Int} {n:Nat} {g:TG} {tb:TS} {D:Ends} {σ:St} {H:Hp} (Pv:Nat->St->Hp->Prop) (h0:Pv 0 σ H)
 (hs:∀ i σ H,i<n->Pv i σ H->g (.int (lo+i)) σ H fun σ2 H2=>tb { D with nx:=Pv (i+1),ct:=Pv (i+1),bk:=D.nx } σ2 H2) (hd:∀ σ H,Pv n σ H->D.nx σ H) :
 ∃ W:Nat->Nat->St->Hp->Prop,(∃ m,W 0 m σ H)/\∀ i m σ H,W i m σ H->
   ((De lo n).stop i H/\D.nx σ H)∨((De lo n).go i H/\∃ N:St->Hp->Prop,(∀ σ' H',N σ' H'->∃ m',m'<m/\W (i+1) m' σ' H')/\∀ x H',(De lo n).yld i H x H'->g x σ H' fun σ2 H2=>tb { D with nx:=N,ct:=N,bk:=D.nx } σ2 H2):=by
 refine ⟨fun i m σ H=>m=n-i/\i≤n/\Pv i σ H,⟨n,by simp,Nat.zero_le _,h0⟩,?_⟩
 rintro i m σ H ⟨rfl,hi,p⟩
 by_cases hlt:i<n
 ·refine .inr ⟨hlt,Pv (i+1),fun σ' H' p'=>⟨n-(i+1),by lia,rfl,hlt,p'⟩,fun x H' y=>?_⟩
  obtain ⟨e,y⟩:=y
  subst e y
  exact hs i σ _ hlt p
 ·have e:i=n:=by lia
  subst e
  exact .inl ⟨Nat.le_refl _,hd σ H p⟩
theorem yj (Pv:St->Hp->Prop) (μ:St->Hp->Nat) (h0:Pv σ H)
 (hs:∀ σ H,Pv σ H->c σ H fun b H1=>if b=true then tb { D with nx:=fun σ' H'=>Pv σ' H'/\μ σ' H'<μ σ H,ct:=fun σ' H'=>Pv σ' H'/\μ σ' H'<μ σ H,bk:=D.nx } σ H1 else D.nx σ H1)
 (mono:∀ σ H Q Q',(∀ b H1,Q b H1->Q' b H1)->c σ H Q->c σ H Q'):zX c tb D σ H:=by
 refine ⟨fun m σ H=>m=μ σ H/\Pv σ H,⟨_,rfl,h0⟩,?_⟩
 rintro m σ H ⟨rfl,p⟩
 refine mono σ H _ _ (fun b H1 q=>?_) (hs σ H p)
 cases b with
 |true=>exact ⟨_,fun σ' H' ⟨p',l⟩=>⟨_,l,rfl,p'⟩,q⟩
 |false=>exact q
noncomputable abbrev R2:=V->V->Hp->VK->Prop
noncomputable def iI (X:Cx) (f:Value->Value->Sem Value) (r:R2):Prop:=
 ∀ (aq:List (Addr×Obj)) (s:Shared) (σ:St) (H:Hp) (x y:V) (v u:Value) (Q:VK),Inv X aq σ H s->RelV x v->RelV y u->r x y H Q->
   wpAny (model X.prog X.w) X.A (f v u) (EP X aq σ Q) X.xe s
noncomputable def N8 (X:Cx) (f:Value->Sem Value) (r:V->Hp->VK->Prop):Prop:=
 ∀ (aq:List (Addr×Obj)) (s:Shared) (σ:St) (H:Hp) (x:V) (v:Value) (Q:VK),Inv X aq σ H s->RelV x v->r x H Q->
   wpAny (model X.prog X.w) X.A (f v) (EP X aq σ Q) X.xe s
noncomputable def gD (X:Cx) (f:Value) (r:List V->Hp->VK->Prop):Prop:=
 ∀ (aq:List (Addr×Obj)) (s:Shared) (σ:St) (H:Hp) (xs:List V) (us:List Value) (Q:VK),Inv X aq σ H s->Vals xs us->r xs H Q->
   wpAny (model X.prog X.w) X.A (call f us) (EP X aq σ Q) X.xe s
noncomputable def Ms (r:R2) (ta tb:TE):TE:=fun σ H Q=>ta σ H fun x H1=>tb σ H1 fun y H2=>r x y H2 Q
noncomputable def PJ (r:V->Hp->VK->Prop) (ta:TE):TE:=fun σ H Q=>ta σ H fun x H1=>r x H1 Q
noncomputable def rI (C:Int->Int->Prop) (g:Int->Int->V):R2:=fun x y H Q=>∃ i j,x=.int i/\y=.int j/\C i j/\Q (g i j) H
noncomputable def Av (g:Int->Int->V):R2:=fun x y H Q=>∃ i j,x=.int i/\y=.int j/\Q (g i j) H
noncomputable def rU (g:Int->V):V->Hp->VK->Prop:=fun x H Q=>∃ i,x=.int i/\Q (g i) H
section
variable {X:Cx} {a b c:Expr} {ta tb tc:TE} {pos:Pos}
theorem FT (ha:PE X a ta) (hb:PE X b tb) {aq:List (Addr×Obj)} {s:Shared} {σ:St} {H:Hp} {R:V->V->Hp->Prop} (I:Inv X aq σ H s)
 (h:ta σ H fun x H1=>tb σ H1 fun y H2=>R x y H2) {Q:Value->Shared->Prop} {f:Value->Value->Sem Value}
 (hf:∀ v u s2 x y H2,Inv X aq σ H2 s2->RelV x v->RelV y u->R x y H2->wpAny (model X.prog X.w) X.A (f v u) Q X.xe s2) :
 wpAny (model X.prog X.w) X.A (eval a X.env) (fun v s₁=>wpAny (model X.prog X.w) X.A (eval b X.env) (fun u s₂=>wpAny (model X.prog X.w) X.A (f v u) Q X.xe s₂) X.xe s₁) X.xe s:=by
 refine cI (ha aq s σ H _ I h) fun v s1 ⟨x,H1,I1,r1,q1⟩=>?_
 refine cI (hb aq s1 σ H1 _ I1 q1) fun u s2 ⟨y,H2,I2,r2,q2⟩=>?_
 exact hf v u s2 x y H2 I2 r1 r2 q2
theorem bh (ho:iI X (binaryOp op) r) (ha:PE X a ta) (hb:PE X b tb):PE X (.BinOp a op b pos) (Ms r ta tb):=by
 intro aq s σ H Q I h
 exact wpAny_BinOp (FT ha hb I h fun v u s2 x y H2 I2 rx ry q=>ho aq s2 σ H2 x y v u Q I2 rx ry q)
theorem jL {op:UnaryOp} {r:V->Hp->VK->Prop} (ho:N8 X (unaryOp op) r) (ha:PE X a ta):PE X (.UnaryOp op a pos) (PJ r ta):=by
 intro aq s σ H Q I h
 exact UnaryOp_ (cI (ha aq s σ H _ I h) fun v s1 ⟨x,H1,I1,r1,q1⟩=>ho aq s1 σ H1 x v Q I1 r1 q1)
theorem Le {f:Value->Value->Sem Value} {C:Int->Int->Prop} {g:Int->Int->Int}
 (rule:∀ (i j:Int) (t u:Tok) (s:Shared) (Q:Value->Shared->Prop) (E:Value->Shared->Prop),C i j->Q (.int (g i j) s.toks) { s with toks:=s.toks+1 }->wpAny (model X.prog X.w) X.A (f (.int i t) (.int j u)) Q E s) :
 iI X f (rI C fun i j=>.int (g i j)):=by
 intro aq s σ H x y v u Q I rx ry h
 obtain ⟨i,j,rfl,rfl,hc,q⟩:=h
 obtain ⟨t,rfl⟩:=rx
 obtain ⟨t',rfl⟩:=ry
 exact rule i j t t' s _ _ hc ⟨.int (g i j),H,I.tok _,⟨_,rfl⟩,q⟩
theorem HH {f:Value->Value->Sem Value} {g:Int->Int->Int}
 (rule:∀ (i j:Int) (t u:Tok) (s:Shared) (Q:Value->Shared->Prop) (E:Value->Shared->Prop),Q (.int (g i j) s.toks) { s with toks:=s.toks+1 }->wpAny (model X.prog X.w) X.A (f (.int i t) (.int j u)) Q E s) :
 iI X f (Av fun i j=>.int (g i j)):=by
 intro aq s σ H x y v u Q I rx ry h
 obtain ⟨i,j,rfl,rfl,q⟩:=h
 obtain ⟨t,rfl⟩:=rx
 obtain ⟨t',rfl⟩:=ry
 exact rule i j t t' s _ _ ⟨.int (g i j),H,I.tok _,⟨_,rfl⟩,q⟩
theorem Ba {f:Value->Value->Sem Value} {g:Int->Int->Bool}
 (rule:∀ (i j:Int) (t u:Tok) (s:Shared) (Q:Value->Shared->Prop) (E:Value->Shared->Prop),Q (.bool (g i j)) s->wpAny (model X.prog X.w) X.A (f (.int i t) (.int j u)) Q E s) :
 iI X f (Av fun i j=>.bl (g i j)):=by
 intro aq s σ H x y v u Q I rx ry h
 obtain ⟨i,j,rfl,rfl,q⟩:=h
 obtain ⟨t,rfl⟩:=rx
 obtain ⟨t',rfl⟩:=ry
 exact rule i j t t' s _ _ ⟨.bl (g i j),H,I,rfl,q⟩
noncomputable def Ng (i j:Int):Prop:=0<j/\j<1073741824
noncomputable def HF (i j:Int):Prop:=0≤j/\j≤1000000/\i.natAbs<2 ^ 64
noncomputable def Bh (i j:Int):Prop:=(-(2 ^ 64)<i/\i<2 ^ 64)∨(-(2 ^ 64)<j/\j<2 ^ 64)
theorem Bh.ok (h:Bh i j):IntMulOk i j:=by
 rcases h with ⟨h1,h2⟩|⟨h1,h2⟩
 ·exact .of_left (intBits_le_64 h1 h2)
 ·exact .of_right (intBits_le_64 h1 h2)
theorem cH:iI X (binaryOp .Add) (Av fun i j=>.int (i+j)):=HH fun _ _ _ _ _ _ _ q=>add_int q
theorem dM:iI X (binaryOp .Sub) (Av fun i j=>.int (i-j)):=HH fun _ _ _ _ _ _ _ q=>sub_int q
theorem kj:iI X (binaryOp .Mult) (rI Bh fun i j=>.int (i*j)):=Le fun _ _ _ _ _ _ _ hc q=>mul_int q hc.ok
theorem uW:iI X (binaryOp .FloorDiv) (rI Ng fun i j=>.int (i / j)):=Le fun i j _ _ _ _ _ hc q=>by
 have h1:(0:Int)<j:=hc.1
 have h2:j<1073741824:=hc.2
 exact floordiv_int (by lia) (by rw [Int.fdiv_eq_ediv_of_nonneg i (by lia)];exact q) (.inl (PyProof.noPylong_small (by lia)))
theorem iz:iI X (binaryOp .Mod) (rI (fun _ j=>0<j) fun i j=>.int (i % j)):=Le fun i j _ _ _ _ _ hc q=>by
 have h1:(0:Int)<j:=hc
 exact mod_int' (by lia) (by rw [Int.fmod_eq_emod_of_nonneg i (by lia)];exact q)
theorem t_:iI X (binaryOp .Pow) (rI HF fun i j=>.int (i ^ j.toNat)):=Le fun _ _ _ _ _ _ _ hc q=>pow_int_small hc.1 hc.2.1 hc.2.2 q
theorem CV:iI X (inplaceOp .Add) (Av fun i j=>.int (i+j)):=HH fun _ _ _ _ _ _ _ q=>iadd_int q
theorem Qp {f:Value->Sem Value} {g:Int->Int}
 (rule:∀ (i:Int) (t:Tok) (s:Shared) (Q:Value->Shared->Prop) (E:Value->Shared->Prop),Q (.int (g i) s.toks) { s with toks:=s.toks+1 }->wpAny (model X.prog X.w) X.A (f (.int i t)) Q E s) :
 N8 X f (rU fun i=>.int (g i)):=by
 intro aq s σ H x v Q I rx h
 obtain ⟨i,rfl,q⟩:=h
 obtain ⟨t,rfl⟩:=rx
 exact rule i t s _ _ ⟨.int (g i),H,I.tok _,⟨_,rfl⟩,q⟩
theorem iu:N8 X (unaryOp .USub) (rU fun i=>.int (-i)):=Qp fun _ _ _ _ _ q=>neg_int q
end
noncomputable def Hu:V->V->Bool
 |.non,.non=>true|.non,.int _=>true|.int _,.non=>true|.non,.bl _=>true|.bl _,.non=>true|.non,.str _=>true|.str _,.non=>true
 |.int _,.int _=>true|.bl _,.bl _=>true|.str _,.str _=>true|.byt _,.byt _=>true
 |.int _,.str _=>true|.str _,.int _=>true|.bl _,.str _=>true|.str _,.bl _=>true
 |_,_=>false
noncomputable def Oo:R2:=fun x y H Q=>Hu x y=true/\Q (.bl (decide (x=y))) H
noncomputable def Q4:R2:=fun x y H Q=>Hu x y=true/\Q (.bl (!decide (x=y))) H
theorem ii:decide (V.int i=V.int j)=(i == j):=by
 rw [Bool.eq_iff_iff]
 simp
theorem zP:decide (V.bl i=V.bl j)=(i == j):=by
 rw [Bool.eq_iff_iff]
 simp
theorem fQ:decide (V.str i=V.str j)=(i == j):=by
 rw [Bool.eq_iff_iff]
 simp
theorem v8:decide (V.byt i=V.byt j)=(i.toList == j.toList):=by
 rw [Bool.eq_iff_iff]
 cases i
 cases j
 simp
theorem bZ (I:Inv X aq σ H s) (q:Q (.bl k) H) (e:k=k'):EP X aq σ Q (.bool k') s:=by
 subst e
 exact ⟨.bl k,H,I,rfl,q⟩
theorem bz:iI X (compareOp .Eq) Oo:=by
 intro aq s σ H x y v u Q I rx ry h
 obtain ⟨hs,q⟩:=h
 cases x with
 | non=>
   cases rx
   cases y with
   |non=>cases ry;exact PySem.EqNone.eq_none_none (bZ I q (by simp))
   |bl j=>cases ry;exact PySem.EqNone.eq_none_bool (bZ I q (by simp))
   |int j=>obtain ⟨t',rfl⟩:=ry;exact PySem.EqNone.eq_none_int (bZ I q (by simp))
   |str j=>obtain ⟨t',rfl⟩:=ry;exact PySem.EqNone.eq_none_str (bZ I q (by simp))
   |_=>exact absurd (show false=true from hs) Bool.false_ne_true
 | bl i=>
   cases rx
   cases y with
   |non=>cases ry;exact PySem.EqNone.eq_bool_none (bZ I q (by simp))
   |bl j=>cases ry;exact eq_bool (bZ I q zP)
   |str j=>obtain ⟨t',rfl⟩:=ry;exact PySem.EqMixed.eq_bool_str (bZ I q (by simp))
   |_=>exact absurd (show false=true from hs) Bool.false_ne_true
 | int i=>
   obtain ⟨t,rfl⟩:=rx
   cases y with
   |non=>cases ry;exact PySem.EqNone.eq_int_none (bZ I q (by simp))
   |int j=>obtain ⟨t',rfl⟩:=ry;exact eq_int (bZ I q ii)
   |str j=>obtain ⟨t',rfl⟩:=ry;exact PySem.EqMixed.eq_int_str (bZ I q (by simp))
   |_=>exact absurd (show false=true from hs) Bool.false_ne_true
 | str i=>
   obtain ⟨t,rfl⟩:=rx
   cases y with
   |non=>cases ry;exact PySem.EqNone.eq_str_none (bZ I q (by simp))
   |bl j=>cases ry;exact PySem.EqMixed.eq_str_bool (bZ I q (by simp))
   |int j=>obtain ⟨t',rfl⟩:=ry;exact PySem.EqMixed.eq_str_int (bZ I q (by simp))
   |str j=>obtain ⟨t',rfl⟩:=ry;exact eq_str (bZ I q fQ)
   |_=>exact absurd (show false=true from hs) Bool.false_ne_true
 | byt i=>
   obtain ⟨t,rfl⟩:=rx
   cases y with
   |byt j=>obtain ⟨t',rfl⟩:=ry;exact PySem.W.eq_bytes (bZ I q v8)
   |_=>exact absurd (show false=true from hs) Bool.false_ne_true
 |_=>cases y <;> exact absurd (show false=true from hs) Bool.false_ne_true
theorem mC:iI X (compareOp .NotEq) Q4:=by
 intro aq s σ H x y v u Q I rx ry h
 obtain ⟨hs,q⟩:=h
 cases x with
 | non=>
   cases rx
   cases y with
   |non=>cases ry;exact PySem.EqNone.ne_none_none (bZ I q (by simp))
   |bl j=>cases ry;exact PySem.EqNone.ne_none_bool (bZ I q (by simp))
   |int j=>obtain ⟨t',rfl⟩:=ry;exact PySem.EqNone.ne_none_int (bZ I q (by simp))
   |str j=>obtain ⟨t',rfl⟩:=ry;exact PySem.EqNone.ne_none_str (bZ I q (by simp))
   |_=>exact absurd (show false=true from hs) Bool.false_ne_true
 | bl i=>
   cases rx
   cases y with
   |non=>cases ry;exact PySem.EqNone.ne_bool_none (bZ I q (by simp))
   |bl j=>cases ry;exact ne_bool (bZ I q (congrArg not zP))
   |str j=>obtain ⟨t',rfl⟩:=ry;exact PySem.EqMixed.ne_bool_str (bZ I q (by simp))
   |_=>exact absurd (show false=true from hs) Bool.false_ne_true
 | int i=>
   obtain ⟨t,rfl⟩:=rx
   cases y with
   |non=>cases ry;exact PySem.EqNone.ne_int_none (bZ I q (by simp))
   |int j=>obtain ⟨t',rfl⟩:=ry;exact ne_int (bZ I q (congrArg not ii))
   |str j=>obtain ⟨t',rfl⟩:=ry;exact PySem.EqMixed.ne_int_str (bZ I q (by simp))
   |_=>exact absurd (show false=true from hs) Bool.false_ne_true
 | str i=>
   obtain ⟨t,rfl⟩:=rx
   cases y with
   |non=>cases ry;exact PySem.EqNone.ne_str_none (bZ I q (by simp))
   |bl j=>cases ry;exact PySem.EqMixed.ne_str_bool (bZ I q (by simp))
   |int j=>obtain ⟨t',rfl⟩:=ry;exact PySem.EqMixed.ne_str_int (bZ I q (by simp))
   |str j=>obtain ⟨t',rfl⟩:=ry;exact ne_str (bZ I q (congrArg not fQ))
   |_=>exact absurd (show false=true from hs) Bool.false_ne_true
 | byt i=>
   obtain ⟨t,rfl⟩:=rx
   cases y with
   |byt j=>obtain ⟨t',rfl⟩:=ry;exact PySem.W.ne_bytes (bZ I q (congrArg not v8))
   |_=>exact absurd (show false=true from hs) Bool.false_ne_true
 |_=>cases y <;> exact absurd (show false=true from hs) Bool.false_ne_true
theorem jO:iI X (compareOp .Lt) (Av fun i j=>.bl (decide (i<j))):=Ba fun _ _ _ _ _ _ _ q=>lt_int q
theorem gO:iI X (compareOp .LtE) (Av fun i j=>.bl (decide (i≤j))):=Ba fun _ _ _ _ _ _ _ q=>le_int q
theorem nW:iI X (compareOp .Gt) (Av fun i j=>.bl (decide (j<i))):=Ba fun _ _ _ _ _ _ _ q=>gt_int q
theorem Kw:iI X (compareOp .GtE) (Av fun i j=>.bl (decide (j≤i))):=Ba fun _ _ _ _ _ _ _ q=>ge_int q
theorem wu:iI X (compareOp .In) (fun x y H Q=>∃ i j,x=.str i/\y=.str j/\Q (.bl (!(Builtin.Str.occurrences j i 0 j.length 1).isEmpty)) H):=by
 intro aq s σ H x y v u Q I rx ry h
 obtain ⟨i,j,rfl,rfl,q⟩:=h
 obtain ⟨t,rfl⟩:=rx
 obtain ⟨t',rfl⟩:=ry
 exact in_str (bZ I q rfl)
theorem ut:iI X (compareOp .Is) (fun x y H Q=>y=.non/\Q (.bl (decide (x=.non))) H):=by
 intro aq s σ H x y v u Q I rx ry h
 obtain ⟨rfl,q⟩:=h
 cases ry
 refine is_none_gen (bZ I q ?_)
 cases x <;> first
  |(cases rx;rfl)
  |(obtain ⟨t,rfl⟩:=rx;rfl)
theorem aN (b:Expr) (h:op≠.In:=by decide) (h2:op≠.NotIn:=by decide):behindInMarks op b=false:=by
 have e1:(op == CmpOp.In)=false:=by cases op <;> first|rfl|exact absurd rfl h
 have e2:(op == CmpOp.NotIn)=false:=by cases op <;> first|rfl|exact absurd rfl h2
 cases b <;> simp [behindInMarks,e1,e2]
theorem bN (ho:iI X (compareOp op) r) (ha:PE X a ta) (hb:PE X b tb) (hm:behindInMarks op b=false):PE X (.Compare a [op] [b] pos) (Ms r ta tb):=by
 intro aq s σ H Q I h
 exact wpAny_Compare1 (FT ha hb I h fun v u s2 x y H2 I2 rx ry q=>ho aq s2 σ H2 x y v u Q I2 rx ry q) hm
noncomputable def uL (t:TE):TT:=fun σ H Q=>t σ H fun x H'=>∃ k,x=.bl k/\Q k H'
theorem aH {op:CmpOp} {r:R2} (ho:iI X (compareOp op) r) (ha:PE X a ta) (hb:PE X b tb) (hm:behindInMarks op b=false):PT X (.Compare a [op] [b] pos) (uL (Ms r ta tb)):=by
 intro aq s σ H Q I h
 refine wpAny_isTrue_Compare1 (cI (ha aq s σ H _ I h) fun v s1 ⟨x,H1,I1,r1,q1⟩=>cI (hb aq s1 σ H1 _ I1 q1) fun u s2 ⟨y,H2,I2,r2,q2⟩=>
  cI (ho aq s2 σ H2 x y v u _ I2 r1 r2 q2) fun c s3 ⟨z,H3,I3,r3,k,e,q3⟩=>?_) hm
 subst e
 cases r3
 exact wpAny_truthy_bool ⟨H3,I3,q3⟩
noncomputable def uA (r r':R2) (ta tb tc:TE):TE:=fun σ H Q=>ta σ H fun x H1=>tb σ H1 fun y H2=>r x y H2 fun z H3=>∃ k,z=.bl k/\
 (if k=true then tc σ H3 fun w' H4=>r' y w' H4 Q else Q (.bl false) H3)
theorem j7 {op op':CmpOp} {r r':R2} (ho:iI X (compareOp op) r) (ho':iI X (compareOp op') r') (ha:PE X a ta) (hb:PE X b tb) (hc:PE X c tc)
 (hm:lastMarks [op,op'] [b,c]=false:=by with_unfolding_all rfl):PE X (.Compare a [op,op'] [b,c] pos) (uA r r' ta tb tc):=by
 intro aq s σ H Q I h
 refine Compare_chain (cI (ha aq s σ H _ I h) fun v s1 ⟨x,H1,I1,r1,q1⟩=>chain_link (cI (hb aq s1 σ H1 _ I1 q1) fun u s2 ⟨y,H2,I2,r2,q2⟩=>
  cI (ho aq s2 σ H2 x y v u _ I2 r1 r2 q2) fun d s3 ⟨z,H3,I3,r3,k,e,q3⟩=>?_)) hm
 subst e
 cases r3
 refine wpAny_truthy_bool ?_
 cases k with
 |false=>exact ite_ff ⟨.bl false,H3,I3,rfl,q3⟩
 |true=>exact ite_tt (chain_last (cI (hc aq s3 σ H3 _ I3 q3) fun w' s4 ⟨z',H4,I4,r4,q4⟩=>ho' aq s4 σ H4 y z' u w' Q I4 r2 r4 q4))
theorem rW {op op':CmpOp} {r r':R2} (ho:iI X (compareOp op) r) (ho':iI X (compareOp op') r') (ha:PE X a ta) (hb:PE X b tb) (hc:PE X c tc)
 (hm:lastMarks [op,op'] [b,c]=false:=by with_unfolding_all rfl):PT X (.Compare a [op,op'] [b,c] pos) (uL (uA r r' ta tb tc)):=by
 intro aq s σ H Q I h
 refine isTrue_chain (cI (ha aq s σ H _ I h) fun v s1 ⟨x,H1,I1,r1,q1⟩=>test_link (cI (hb aq s1 σ H1 _ I1 q1) fun u s2 ⟨y,H2,I2,r2,q2⟩=>
  cI (ho aq s2 σ H2 x y v u _ I2 r1 r2 q2) fun d s3 ⟨z,H3,I3,r3,k,e,q3⟩=>?_)) hm
 subst e
 cases r3
 refine wpAny_truthy_bool ?_
 cases k with
 | false=>
   obtain ⟨k',e',q'⟩:=q3
   cases e'
   exact ite_ff ⟨H3,I3,q'⟩
 | true=>
   refine ite_tt (test_last (cI (hc aq s3 σ H3 _ I3 q3) fun w' s4 ⟨z',H4,I4,r4,q4⟩=>cI (ho' aq s4 σ H4 y z' u w' _ I4 r2 r4 q4) fun d' s5 ⟨z2,H5,I5,r5,k2,e2,q5⟩=>?_))
   subst e2
   cases r5
   exact wpAny_truthy_bool ⟨H5,I5,q5⟩
theorem km:(sizeLine:Nat)<2 ^ 63:=by rw [sizeLine_eq];decide
theorem dz:iI X (binaryOp .Add) (fun x y H Q=>∃ i j,x=.str i/\y=.str j/\i.length+j.length≤sizeLine/\Q (.str (i++j)) H):=by
 intro aq s σ H x y v u Q I rx ry h
 obtain ⟨i,j,rfl,rfl,hz,q⟩:=h
 obtain ⟨t,rfl⟩:=rx
 obtain ⟨t',rfl⟩:=ry
 exact add_str (fun t' tk=>⟨.str (i++j),H,I.tok _,⟨_,rfl⟩,q⟩) hz
theorem vals1 (r:Vals [x] us):∃ u,us=[u]/\RelV x u:=by
 cases r with
 |cons r1 r2=>cases r2;exact ⟨_,rfl,r1⟩
theorem vals2 (r:Vals [x,y] us):∃ u w',us=[u,w']/\RelV x u/\RelV y w':=by
 cases r with
 | cons r1 r2=>
   cases r2 with
   |cons r3 r4=>cases r4;exact ⟨_,_,rfl,r1,r3⟩
theorem wF (hc:X.calm=true):gD X (.builtin "max") (fun xs H Q=>∃ i j,xs=[.int i,.int j]/\Q (.int (if j > i then j else i)) H):=by
 intro aq s σ H xs us Q I r h
 obtain ⟨i,j,rfl,q⟩:=h
 obtain ⟨u,w',rfl,⟨t,rfl⟩,⟨t',rfl⟩⟩:=vals2 r
 refine max_two_ints (I.ok.hd hc) fun h' tk k=>⟨_,H,I.kept k,?_,q⟩
 by_cases hj:j > i
 ·rw [if_pos hj,if_pos hj];exact ⟨_,rfl⟩
 ·rw [if_neg hj,if_neg hj];exact ⟨_,rfl⟩
theorem pJ (hc:X.calm=true):gD X (.builtin "min") (fun xs H Q=>∃ i j,xs=[.int i,.int j]/\Q (.int (if j<i then j else i)) H):=by
 intro aq s σ H xs us Q I r h
 obtain ⟨i,j,rfl,q⟩:=h
 obtain ⟨u,w',rfl,⟨t,rfl⟩,⟨t',rfl⟩⟩:=vals2 r
 refine min_two_ints (I.ok.hd hc) fun h' tk k=>⟨_,H,I.kept k,?_,q⟩
 by_cases hj:j<i
 ·rw [if_pos hj,if_pos hj];exact ⟨_,rfl⟩
 ·rw [if_neg hj,if_neg hj];exact ⟨_,rfl⟩
structure tZ (h:Heap) (x dx C:Addr) (mA:Str->Option Value):Prop where
 obj:h.get? x=some (PySem.W.instObj C dx)
 ns:h.Ns1 dx mA
 ne:dx≠x
theorem wg {h:Heap} {mA:Str->Option Value} (n:h.Ns1 dx mA):∃ od,h.get? dx=some od/\∀ name,PySem.W.lookIn name od=some (mA name):=by
 obtain ⟨o,es,ep,ho,hd,hk,_,hm⟩:=n
 refine ⟨o,ho,fun name=>?_⟩
 have e:=hm name
 unfold nsFind findBy at e
 rw [← Array.find?_toList] at e
 unfold PySem.W.lookIn
 rw [hd]
 dsimp only
 split
 ·rename_i y q
  rw [q] at e
  exact congrArg some e
 ·rename_i q
  rw [q] at e
  have a:es.toList.any (·.refKey)=false:=by
   rw [List.any_eq_false]
   intro y hy
   obtain ⟨z,t,hkey⟩:=hk y (Array.mem_toList_iff.mp hy)
   simp [DictEntry.refKey,hkey]
  have a':¬ es.toList.any (·.refKey)=true:=by rw [a];exact Bool.false_ne_true
  rw [if_neg a']
  exact congrArg some e
theorem tZ.look (I:tZ h x dx C mA):∃ od,PySem.W.InstAt h x (PySem.W.instObj C dx) C (some od)/\∀ name,PySem.W.lookIn name od=some (mA name):=
 let ⟨od,ho,hl⟩:=wg I.ns
 ⟨od,⟨I.obj,rfl,rfl,ho⟩,hl⟩
section
variable {prog:Program} {w:World} {A:Around} {E:Value->Shared->Prop} {s:Shared} {K:PySem.W.Frag} {x dx C f:Addr} {mA:Str->Option Value} {name:Str} {v:Value}
theorem Bu (X:K.In s.heap) (I:tZ s.heap x dx C mA) (hg:PySem.W.plainGet K C name=true) (hh:PySem.W.hasDictIn K C=true)
 (ha:PySem.W.findIn K (.ref C) name=some none) (hv:mA name=some v) (hv':PySem.W.handedIn v=true) (h:Q v { s with toks:=s.toks+1 }) :
 wpAny (model prog w) A (getAttr (.ref x) name expr) Q E s:=by
 obtain ⟨od,J,hl⟩:=I.look
 exact PySem.W.get_value X J (PySem.W.plainGet_of hg).1 (PySem.W.findObj_own hh ha rfl (by rw [hl,hv])) hv' h
theorem Ai (X:K.In s.heap) (I:tZ s.heap x dx C mA) (hg:PySem.W.plainGet K C name=true)
 (hf:PySem.W.findIn K (.ref C) name=some (some (.ref f))) (ht:PySem.W.isFn K (.ref f)=true) (hv:mA name=none) (h:Q (.ref f,[.ref x]) s) :
 wpAny (model prog w) A (getMethod (.ref x) name pl) Q E s:=by
 obtain ⟨od,J,hl⟩:=I.look
 exact PySem.W.method_fn X J (PySem.W.plainGet_of hg).1 (PySem.W.plainGet_of hg).2 hf (beq_iff_eq.mp ht) (by show (PySem.W.lookIn name od).map (·.isSome)=some false;rw [hl,hv];rfl) h
theorem CN (X:K.In s.heap) (I:tZ s.heap x dx C mA)
 (hs:PySem.W.findIn K (.ref C) "__setattr__" = some (some (.builtin "object.__setattr__"))) (hp:PySem.W.plainOver K C=true) (ht:PySem.W.takerIn K C name=some none) (hh:PySem.W.hasDictIn K C=true)
 (hw:PySem.Within mA ns) (hsz:ns.length≤sizeLine)
 (h:∀ h',tZ h' x dx C (fun y=>if y=name then some v else mA y)->Heap.SameBut dx s.heap h'->Q () { s with heap:=h',toks:=s.toks+2 }) :
 wpAny (model prog w) A (setAttr (.ref x) name v) Q E s:=by
 obtain ⟨od,J,hl⟩:=I.look
 refine PySem.W.set_plain X J hs (PySem.W.osa_open (s:={ s with toks:=s.toks+1 }) (r:=none) X J hp ht fun b=>?_)
 obtain ⟨cd,hc,hd'⟩:=PySem.W.any_some hh
 have hx:s.heap.get? x=some ⟨.ref C,some dx,.plain,#[]⟩:=I.obj
 refine wpAny_bind (wpAny_pure (wpAny_bind (wpAny_bind (wpAny_loadPart hx (wpAny_bind (PySem.W.Looks.here (s:={ s with toks:=s.toks+1 }) (PySem.W.looks_clsIn X hc) ?_))))))
 rw [hd']
 refine wpAny_pure (a:=some dx) (wpAny_bind (wpAny_pure (wpAny_bind ?_)))
 refine wpAny_nsSet1 (s:={ s with toks:=s.toks+1 }) I.ns fun h' hn2 hs2=>?_
 obtain ⟨oD,esD,epD,hoD,hdD,hcD⟩:=hn2.count (PySem.Within.cons name v hw)
 refine wpAny_bind (wpAny_lookBehind hoD (by rw [hdD];exact pastItsLine_dict (Nat.le_trans hcD (by rw [List.length_cons];lia))) ?_)
 exact wpAny_pure (h _ ⟨(hs2.2 _ (Ne.symm I.ne)).trans I.obj,hn2,I.ne⟩ hs2)
theorem zA (X:K.In s.heap) (hm:PySem.W.makesIn K C=true)
 (hi:PySem.W.findIn K (.ref C) "__init__" = some (some (.ref f))) (hf:PySem.W.typeIn K (.ref f)=some (.type "function"))
 (h:codeAny (model prog w) (A.under (.builtin "type.__call__" ⟨.ref C::vs,kw⟩)) (.call (.ref f) ⟨.ref (s.heap.objs.size+1)::vs,kw⟩) (PySem.W.InitBack (s.heap.objs.size+1) R)
  { s with heap:=(s.heap.push PySem.W.emptyDict).push (PySem.W.instObj C s.heap.objs.size) }) :
 codeAny (model prog w) A (.call (.ref C) ⟨vs,kw⟩) R s:=by
 obtain ⟨hh,g,d,t,os⟩:=s
 exact PySem.W.make_core (PySem.W.makes_of X hm) (PySem.W.looks_findIn X hi) (fun self=>PySem.W.bind_fn X self hf) (.inl rfl) h
end
noncomputable def iT (f:Str) (v:V):List (Str×V)->List (Str×V)
 |[]=>[(f,v)]
 |(g,x)::r=>if g=f then (g,v)::r else (g,x)::iT f v r
theorem dR (f g:Str) (v:V):∀ fs:List (Str×V),(iT f v fs).lookup g=if g=f then some v else fs.lookup g
 | []=>by
   show List.lookup g [(f,v)]=_
   by_cases h:g=f
   ·have hb:(g == f)=true:=beq_iff_eq.mpr h
    simp only [List.lookup,hb,if_pos h]
   ·have hb:(g == f)=false:=beq_eq_false_iff_ne.mpr h
    simp only [List.lookup,hb,if_neg h]
 | (k,x)::r=>by
   have ih:=dR f g v r
   rw [show iT f v ((k,x)::r)=(if k=f then (k,v)::r else (k,x)::iT f v r) from rfl]
   by_cases hk:k=f
   ·rw [if_pos hk]
    by_cases h:g=k
    ·have hb:(g == k)=true:=beq_iff_eq.mpr h
     simp only [List.lookup,hb,if_pos (h.trans hk)]
    ·have hb:(g == k)=false:=beq_eq_false_iff_ne.mpr h
     simp only [List.lookup,hb,if_neg (fun e:g=f=>h (e.trans hk.symm))]
   ·rw [if_neg hk]
    by_cases h:g=k
    ·have hb:(g == k)=true:=beq_iff_eq.mpr h
     simp only [List.lookup,hb,if_neg (fun e:g=f=>hk (h.symm.trans e))]
    ·have hb:(g == k)=false:=beq_eq_false_iff_ne.mpr h
     simp only [List.lookup,hb]
     exact ih
theorem lQ (f:Str) (v:V):∀ fs:List (Str×V),f∈(iT f v fs).map (·.1)/\∀ g,g∈fs.map (·.1)->g∈(iT f v fs).map (·.1)
 |[]=>⟨by simp [iT],fun g h=>by simp at h⟩
 | (k,x)::r=>by
   obtain ⟨i1,i2⟩:=lQ f v r
   rw [show iT f v ((k,x)::r)=(if k=f then (k,v)::r else (k,x)::iT f v r) from rfl]
   by_cases hk:k=f
   ·rw [if_pos hk]
    subst hk
    exact ⟨by simp,fun g h=>by simpa using h⟩
   ·rw [if_neg hk]
    refine ⟨?_,fun g h=>?_⟩
    ·rw [List.map_cons]
     exact List.mem_cons_of_mem _ i1
    ·rw [List.map_cons] at h ⊢
     rcases List.mem_cons.mp h with e|e
     ·exact List.mem_cons.mpr (.inl e)
     ·exact List.mem_cons_of_mem _ (i2 g e)
theorem mJ (f:Str) (v:V):∀ fs:List (Str×V),(iT f v fs).length≤fs.length+1
 |[]=>by simp [iT]
 | (k,x)::r=>by
   have ih:=mJ f v r
   rw [show iT f v ((k,x)::r)=(if k=f then (k,v)::r else (k,x)::iT f v r) from rfl]
   by_cases hk:k=f
   ·rw [if_pos hk,List.length_cons,List.length_cons];lia
   ·rw [if_neg hk,List.length_cons,List.length_cons];lia
theorem jH.some_of (r:jH (some v) o):∃ u,o=some u/\RelV v u:=by
 cases o with
 |none=>exact (show False from r).elim
 |some u=>exact ⟨u,rfl,r⟩
theorem jH.none_of (r:jH none o):o=none:=by
 cases o with
 |none=>rfl
 |some u=>exact (show False from r).elim
theorem xG (r:RelV v u):PySem.W.handedIn u=true:=by
 cases v with
 |non=>cases (show u=Value.none from r);rfl
 |bl b=>cases (show u=Value.bool b from r);rfl
 |int i=>obtain ⟨t,e⟩:=(show ∃ t,u=Value.int i t from r);cases e;rfl
 |str x=>obtain ⟨t,e⟩:=(show ∃ t,u=Value.str x t from r);cases e;rfl
 |byt b=>obtain ⟨t,e⟩:=(show ∃ t,u=Value.bytes b t from r);cases e;rfl
 |flt b=>obtain ⟨t,e⟩:=(show ∃ t,u=Value.float b t from r);cases e;rfl
 |ref a=>cases (show u=Value.ref a from r);rfl
 |ty n=>cases (show u=Value.type n from r);rfl
theorem qx (hok:jW P w H h) (e:H a=some (.ins C dx fs)):∃ mA,tZ h a dx C mA/\(∀ f,jH (fs.lookup f) (mA f))/\PySem.Within mA (fs.map (·.1))/\fs.length≤1000/\H dx=some (.own a):=by
 obtain ⟨d,z,ne,ob,mA,n,r,q⟩:=(show dm P w H h a (.ins C dx fs) from hok a _ e)
 exact ⟨mA,⟨ob,n,ne⟩,r,q,z,d⟩
structure As (K:PySem.W.Frag) (C:Addr):Prop where
 pg:PySem.W.plainGet K C Str.empty=true
 hd:PySem.W.hasDictIn K C=true
 po:PySem.W.plainOver K C=true
 sa:PySem.W.findIn K (.ref C) "__setattr__" = some (some (.builtin "object.__setattr__"))
theorem As.get {K:PySem.W.Frag} {C:Addr} (c:As K C) (f:Str):PySem.W.plainGet K C f=true:=c.pg
noncomputable def jf (K:PySem.W.Frag) (C:Addr) (f:Str):Prop:=PySem.W.findIn K (.ref C) f=some none
theorem jf.taker {K:PySem.W.Frag} {C:Addr} {f:Str} (n:jf K C f):PySem.W.takerIn K C f=some none:=by
 unfold PySem.W.takerIn
 rw [show PySem.W.findIn K (.ref C) f=some none from n]
 rfl
structure Meth (K:PySem.W.Frag) (C:Addr) (m:Str) (f:Addr):Prop where
 at_:PySem.W.findIn K (.ref C) m=some (some (.ref f))
 fn:PySem.W.isFn K (.ref f)=true
 kp:PySem.W.keepIn K (.ref f)=true
section
variable {X:Cx} {aq:List (Addr×Obj)} {σ:St} {H:Hp} {s:Shared} {a C dx:Addr} {fs:List (Str×V)} {f:Str} {v:V} {A:Around} {E:Value->Shared->Prop}
theorem tX (I:Inv X aq σ H s) (e:H a=some (.ins C dx fs)) (c:As X.K C) (n:jf X.K C f) (l:fs.lookup f=some v)
 (h:∀ u s',Inv X aq σ H s'->RelV v u->Q u s'):wpAny (model X.prog X.w) A (getAttr (.ref a) f b) Q E s:=by
 obtain ⟨mA,O,r,_,_,_⟩:=qx I.hok e
 obtain ⟨u,hu,ru⟩:=jH.some_of (v:=v) (o:=mA f) (by rw [← l];exact r f)
 exact Bu I.kIn O (c.get f) c.hd n hu (xG ru) (h u _ (I.tok _) ru)
theorem nU (I:Inv X aq σ H s) (e:H a=some (.ins C dx fs)) (c:As X.K C) (k:Meth X.K C m g) (l:fs.lookup m=none)
 (h:Q (.ref g,[.ref a]) s):wpAny (model X.prog X.w) A (getMethod (.ref a) m pl) Q E s:=by
 obtain ⟨mA,O,r,_,_,_⟩:=qx I.hok e
 have hn:mA m=none:=jH.none_of (by rw [← l];exact r m)
 exact Ai I.kIn O (c.get m) k.at_ k.fn hn h
theorem tu (I:Inv X aq σ H s) (e:H a=some (.ins C dx fs)) (c:As X.K C) (n:jf X.K C f) (hl:fs.length<1000) (ry:RelV y u)
 (h:∀ s',Inv X aq σ (upd H a (.ins C dx (iT f y fs))) s'->Q () s'):wpAny (model X.prog X.w) A (setAttr (.ref a) f u) Q E s:=by
 obtain ⟨mA,O,r,wi,_,ho⟩:=qx I.hok e
 have hz:(fs.map (·.1)).length≤sizeLine:=by rw [List.length_map,sizeLine_eq];lia
 refine CN I.kIn O c.sa c.po n.taker c.hd wi hz fun h' O' sb=>h _ ?_
 have hd:∃ o,h'.get? dx=some o:=let ⟨o,_,_,e',_⟩:=O'.ns;⟨o,e'⟩
 refine I.write (x:=a) (e:=dx) (by rw [e];exact True.intro) (.inr ho) (fun b q hb z=>(sb.2 b hb).trans z) hd ?_
 refine ⟨by rw [aX O.ne];exact ho,?_,O.ne,O'.obj,_,O'.ns,fun g=>?_,fun g hg=>?_⟩
 ·have:=mJ f y fs;lia
 ·show jH ((iT f y fs).lookup g) (if g=f then some u else mA g)
  rw [dR]
  by_cases q:g=f
  ·rw [if_pos q,if_pos q];exact ry
  ·rw [if_neg q,if_neg q];exact r g
 ·by_cases q:g=f
  ·rw [q];exact (lQ f y fs).1
  ·refine (lQ f y fs).2 g (wi g fun z=>hg ?_)
   show (if g=f then some u else mA g)=none
   rw [if_neg q];exact z
theorem Inv.made (I:Inv X aq σ H s):Inv X aq σ (upd (upd H s.heap.objs.size (.own (s.heap.objs.size+1))) (s.heap.objs.size+1) (.ins C s.heap.objs.size []))
 { s with heap:=(s.heap.push PySem.W.emptyDict).push (PySem.W.instObj C s.heap.objs.size) }:=by
 have e1:(s.heap.push PySem.W.emptyDict).get? s.heap.objs.size=some PySem.W.emptyDict:=Heap.get?_push_size s.heap rfl
 have e2:((s.heap.push PySem.W.emptyDict).push (PySem.W.instObj C s.heap.objs.size)).get? (s.heap.objs.size+1)=some (PySem.W.instObj C s.heap.objs.size):=by
  have:=Heap.get?_push_size (s.heap.push PySem.W.emptyDict) (o:=PySem.W.instObj C s.heap.objs.size) rfl
  rwa [Heap.size_push] at this
 have e3:(s.heap.push PySem.W.emptyDict).Ns s.heap.objs.size (fun _=>none):=⟨PySem.W.emptyDict,#[],_,e1,rfl,(fun e he=>absurd he (by simp)),fun _=>rfl⟩
 have I1:=I.laid (a:=s.heap.objs.size) (o:=.own (s.heap.objs.size+1)) (h':=s.heap.push PySem.W.emptyDict) (t':=s.toks) (fun b u q=>Heap.get?_push_of_some _ q) (Nat.le_refl _) ⟨_,e1⟩
 refine I1.laid (a:=s.heap.objs.size+1) (o:=.ins C s.heap.objs.size []) (t':=s.toks) (fun b u q=>Heap.get?_push_of_some _ q) (Nat.le_of_eq (Heap.size_push _ _)) ?_
 have ne:s.heap.objs.size≠s.heap.objs.size+1:=Nat.ne_of_lt (Nat.lt_succ_self _)
 refine ⟨by rw [aX ne,au],Nat.zero_le _,ne,e2,fun _=>none,(Heap.Ns1.of_empty e3).at fun o q=>Heap.get?_push_of_some _ q,fun _=>True.intro,fun y hy=>absurd rfl hy⟩
theorem Cj (hb:attributeBase e f env (eval e env)=eval e env)
 (h:wpAny (model prog w) A (eval e env) (fun o s₁=>wpAny (model prog w) A (getAttr o f true) Q E s₁) E s):wpAny (model prog w) A (eval (.Attribute e f pos) env) Q E s:=
 Attribute_any_ h (by rw [arm_eval_Attribute,hb])
end
noncomputable def OJ (K:PySem.W.Frag) (ta:TE) (f:Str):TE:=fun σ H Q=>ta σ H fun x H1=>∃ a C dx fs v,x=.ref a/\H1 a=some (.ins C dx fs)/\As K C/\jf K C f/\fs.lookup f=some v/\Q v H1
noncomputable def Ph (K:PySem.W.Frag) (ta tv:TE) (f:Str):TS:=fun D σ H=>tv σ H fun y H1=>ta σ H1 fun x H2=>∃ a C dx fs,x=.ref a/\H2 a=some (.ins C dx fs)/\As K C/\jf K C f/\fs.length<1000/\
 D.nx σ (upd H2 a (.ins C dx (iT f y fs)))
theorem qF {X:Cx} (he:PE X e ta) (hb:attributeBase e f X.env (eval e X.env)=eval e X.env):PE X (.Attribute e f pos) (OJ X.K ta f):=by
 intro aq s σ H Q I h
 refine Cj hb (cI (he aq s σ H _ I h) fun u s1 ⟨x,H1,I1,rx,a,C,dx,fs,v,ex,ea,c,n,l,q⟩=>?_)
 subst ex
 obtain rfl:u=Value.ref a:=rx
 exact tX I1 ea c n l fun u' s2 I2 ru=>⟨v,H1,I2,ru,q⟩
theorem zZ {X:Cx} {pos:Pos} (ha:PE X o ta) (hv:PE X value tv) (hs:swapsWith value (some (.Attribute o f pos')) pos.line X.env=pure false):PS X (.Assign [.Attribute o f pos'] value pos) (Ph X.K ta tv f):=by
 intro aq s σ H D I h
 refine plainObj_wpAny_Assign_Attribute (cI (hv aq s σ H _ I h) fun u s1 ⟨y,H1,I1,ry,q⟩=>cI (ha aq s1 σ H1 _ I1 q) fun ov s2 ⟨x,H2,I2,rx,a,C,dx,fs,ex,ea,c,n,l,q2⟩=>?_) hs
 subst ex
 obtain rfl:ov=Value.ref a:=rx
 exact tu I2 ea c n l ry fun s3 I3=>⟨σ,_,I3,q2⟩
theorem Di {X:Cx} {pl:Sem Bool} {m:Str} {apos:Pos} {args:List Expr} {aq:List (Addr×Obj)} {s:Shared} {σ:St} {H:Hp} {Q:Value->Shared->Prop} {te:TE} (he:PE X e te) (I:Inv X aq σ H s)
 (h:te σ H fun x H1=>∃ a C dx fs g,x=.ref a/\H1 a=some (.ins C dx fs)/\As X.K C/\Meth X.K C m g/\fs.lookup m=none/\
  ∀ s1,Inv X aq σ H1 s1->wpAny (model X.prog X.w) X.A (callWith pos (.ref g) [.ref a] (backTo pos (starEach args X.env)) (backToKw pos (keywordEach [] X.env))) Q X.xe s1)
 (ht:eval (.Call (.Attribute e m apos) args [] pos) X.env=(do
  let ov ← eval e X.env
  standAt apos.atName
  let (f,first) ← holding [ov] (getMethod ov m pl)
  callWith pos f first (backTo pos (starEach args X.env)) (backToKw pos (keywordEach [] X.env)))) :
 wpAny (model X.prog X.w) X.A (eval (.Call (.Attribute e m apos) args [] pos) X.env) Q X.xe s:=by
 refine PySem.W.methodCall_KW (pl:=pl) (cI (he aq s σ H _ I h) fun u s1 ⟨x,H1,I1,rx,a,C,dx,fs,g,ex,ea,c,k,l,q⟩=>?_) ht
 subst ex
 obtain rfl:u=Value.ref a:=rx
 exact nU I1 ea c k l (q s1 I1)
structure bR (k:Nat) (A:Around):Prop where
 hd:A.handled=none
 dp:A.depth+3*k+5<recursionLimit
 un:A.units+16*k+200<cLine
 gd:A.guards=some []
theorem bR.mono (r:bR k A) (h:j≤k):bR j A:=⟨r.hd,by have:=r.dp;lia,by have:=r.un;lia,r.gd⟩
theorem bR.deeper (r:bR (k+1) A) (env:Env):bR k (A.deeper env):=
 ⟨r.hd,by have:=r.dp;show A.depth+1+3*k+5<_;lia,by have:=r.un;show A.units+3+16*k+200<_;lia,r.gd⟩
theorem uB {A:Around}:(A.under (.builtin "type.__call__" ⟨.ref C::us,kw⟩)).depth=A.depth+1:=by
 first|rfl|simp [Around.under,Code.weight,Code.isCreation,Code.isGuard,Code.isCaller,Code.frames,Code.isFrame,guardIds]
theorem sZ {A:Around}:(A.under (.builtin "type.__call__" ⟨.ref C::us,kw⟩)).units=A.units+1:=by
 first|rfl|simp [Around.under,Code.cUnits,Code.frames,Code.isFrame]
theorem bR.make (r:bR (k+1) A) (C:Addr) (us:List Value) (kw:List (Str×Value)):bR k (A.under (.builtin "type.__call__" ⟨.ref C::us,kw⟩)):=
 ⟨r.hd,by have:=r.dp;rw [uB];lia,by have:=r.un;rw [sZ];lia,by have:=r.gd;first|exact this|(simpa [Around.under] using this)⟩
theorem bR.depth (r:bR k A):A.depth<recursionLimit:=by have:=r.dp;lia
theorem bR.units (r:bR k A):A.units+64<cLine:=by have:=r.un;lia
noncomputable def uH:TA:=fun _ H Q=>Q [] H
noncomputable def ig (ta:TE) (tr:TA):TA:=fun σ H Q=>ta σ H fun x H1=>tr σ H1 fun xs H2=>Q (x::xs) H2
theorem aj:PA X [] uH:=fun _ _ _ _ H Q I h=>Calls.spliced_nil ⟨[],H,I,.nil,h⟩
theorem aa {X:Cx} (ha:PE X e te) (hr:PA X es t) (hs:starEach (e::es) X.env=(false,eval e X.env)::starEach es X.env:=by rfl):PA X (e::es) (ig te t):=by
 intro pos aq s σ H Q I h
 rw [hs]
 show wpAny _ _ (spliced ((false,eval e X.env)::backTo pos (starEach es X.env))) _ _ s
 refine Calls.spliced_cons (cI (ha aq s σ H _ I h) fun u s1 ⟨x,H1,I1,r1,q1⟩=>?_)
 exact cI (hr pos aq s1 σ H1 _ I1 q1) fun us s2 ⟨xs,H2,I2,r2,q2⟩=>⟨x::xs,H2,I2,.cons r1 r2,q2⟩
noncomputable def Mz (t:TA):TE:=fun σ H Q=>t σ H fun xs H1=>xs.length≤sizeLine/\∀ p,H1 p=none->Q (.ref p) (upd H1 p (.tup xs))
noncomputable def MT (t:TA):TE:=fun σ H Q=>t σ H fun xs H1=>xs.length≤sizeLine/\∀ p,H1 p=none->Q (.ref p) (upd H1 p (.lst xs))
theorem bu {x1} (h:PA X es t):PE X (.Tuple es x1 pos) (Mz t):=by
 intro aq s σ H Q I hq
 refine wpAny_Tuple_spliced (cI (h pos aq s σ H _ I hq) fun us s1 ⟨xs,H1,I1,r,z,q⟩=>⟨by rw [← r.length];exact z,?_⟩)
 have hf:H1 s1.heap.objs.size=none:=I1.hok.fresh (Nat.le_refl _)
 refine ⟨.ref s1.heap.objs.size,upd H1 s1.heap.objs.size (.tup xs),I1.laid (t':=s1.toks) (fun b u e=>Heap.get?_push_of_some _ e) (Nat.le_refl _) ?_,rfl,q _ hf⟩
 exact ⟨z,us,r,⟨_,Heap.get?_push_size _ rfl,rfl,_,rfl⟩⟩
theorem bM (h:PA X es t):PE X (.List es pos) (MT t):=by
 intro aq s σ H Q I hq
 refine wpAny_List_spliced (cI (h pos aq s σ H _ I hq) fun us s1 ⟨xs,H1,I1,r,z,q⟩=>⟨by rw [← r.length];exact z,?_⟩)
 have hf:H1 s1.heap.objs.size=none:=I1.hok.fresh (Nat.le_refl _)
 refine ⟨.ref s1.heap.objs.size,upd H1 s1.heap.objs.size (.lst xs),I1.laid (t':=s1.toks) (fun b u e=>Heap.get?_push_of_some _ e) (Nat.le_refl _) ?_,rfl,q _ hf⟩
 exact ⟨z,us,0,r,Heap.get?_push_size _ rfl⟩
noncomputable abbrev Sp:=List V->Hp->VK->XK->Prop
noncomputable abbrev BP:=List Env->Hp->Shared->XK->Value->Shared->Prop
structure tY (P:Program) (w:World) (K:PySem.W.Frag) (mg:Str->Option Value) (base:Heap) (A:Around) (outer:List Env) (s:Shared) (H:Hp):Prop where
 frames:A.frames=some outer
 mod:Mod K mg base
 bs:∀ b o,base.get? b=some o->s.heap.get? b=some o/\H b=none
 bsz:base.objs.size≤s.heap.objs.size
 funs:s.heap.FunFrames base outer
 frf:∀ b∈frs outer,H b=none
 hok:jW P w H s.heap
 bare:AllBare s.gens
noncomputable def CE (outer:List Env) (P:Program) (w:World) (H:Hp) (s:Shared) (Q:VK) (u:Value) (s':Shared):Prop:=
 ∃ v H',s'.os=s.os/\AllBare s'.gens/\Un (frs outer) [] H H' s.heap s'.heap/\jW P w H' s'.heap/\RelV v u/\Q v H'
noncomputable def CR (CX:BP) (outer:List Env) (P:Program) (w:World) (H:Hp) (s:Shared) (Q:VK) (E:XK) (r:Result) (s':Shared):Prop:=
 match r with
 |.ok (.ret u)=>CE outer P w H s Q u s'
 |.ok _=>False
 |.error e=>CX outer H s E e s'
structure aQ (P:Program) (w:World) (K:PySem.W.Frag) (mg:Str->Option Value) (base:Heap) (CX:BP) (k:Nat) (f:Addr) (fd:FuncData) (ps:List Str) (sp:Sp):Prop where
 len:∀ vs H Q E,sp vs H Q E->vs.length=ps.length
 run:∀ (A:Around) (outer:List Env) (s:Shared) (H:Hp) (args:Args) (us:List Value) (vs:List V) (Q:VK) (E:XK),bR k A->tY P w K mg base A outer s H->BindsTo s fd args (ps.zip us)->Vals vs us->sp vs H Q E->
  codeAny (model P w) A (.call (.ref f) args) (CR CX outer P w H s Q E) s
theorem tY.make {P:Program} {w:World} {K:PySem.W.Frag} {mg:Str->Option Value} {base:Heap} {A:Around} {outer:List Env} {s:Shared} {H:Hp} (e:tY P w K mg base A outer s H) (C:Addr) (us:List Value) (kw:List (Str×Value)) :
 tY P w K mg base (A.under (.builtin "type.__call__" ⟨.ref C::us,kw⟩)) outer s H:=⟨by first|exact e.frames|(simpa [Around.under,Code.envs,Code.isFrame,pushEnvs] using e.frames),e.mod,e.bs,e.bsz,e.funs,e.frf,e.hok,e.bare⟩
theorem Inv.env0 (I:Inv X aq σ H s):tY X.prog X.w X.K X.mg X.base X.A X.stack s H:=
 ⟨I.ok.frames,I.ok.mod,I.bs,Nat.le_trans I.ok.bsz I.sz,I.stack,I.stkFree,I.hok,I.bare⟩
theorem Inv.after (I:Inv X aq σ H s) (h:CE X.stack X.prog X.w H s Q u s'):EP X aq σ Q u s':=by
 obtain ⟨v,H',os,bare,un,hok,r,q⟩:=h
 obtain ⟨hh,g,d,t,os'⟩:=s'
 obtain rfl:os'=s.os:=os
 exact ⟨v,H',I.call (h':=hh) (g':=g) (d':=d) (t':=t) (ch:=[]) un hok bare (fun b z=>absurd z (by simp)),r,q⟩
noncomputable def mz (sp:Sp) (dvs:List V) (E:XK) (t:TA):TE:=fun σ H Q=>t σ H fun vs H1=>sp (vs++dvs) H1 Q E
noncomputable def Ir (C:Addr) (m:Str) (sp:Sp) (dvs:List V) (E:XK) (ta:TE) (t:TA):TE:=fun σ H Q=>ta σ H fun x H1=>∃ a dx fs,x=.ref a/\H1 a=some (.ins C dx fs)/\fs.lookup m=none/\
 t σ H1 fun vs H2=>sp (x::(vs++dvs)) H2 Q E
noncomputable def JH (C:Addr) (sp:Sp) (dvs:List V) (E:XK) (t:TA):TE:=fun σ H Q=>t σ H fun vs H1=>∀ x dx,H1 x=none->H1 dx=none->dx≠x->
 sp (.ref x::(vs++dvs)) (upd (upd H1 dx (.own x)) x (.ins C dx [])) (fun v H2=>v=.non/\Q (.ref x) H2) E
noncomputable def Binds (K:PySem.W.Frag) (fd:FuncData) (ps:List Str) (ds:List Value):Prop:=
 ∀ (s:Shared) (us:List Value),K.In s.heap->(us++ds).length=ps.length->BindsTo s fd ⟨us,[]⟩ (ps.zip (us++ds))
theorem Binds.all {K:PySem.W.Frag} {fd:FuncData} {ps:List Str} (h:∀ us:List Value,us.length=ps.length->bindArgs fd ⟨us,[]⟩=pure (ps.zip us)):Binds K fd ps []:=fun s us _ hl=>by
 rw [List.append_nil] at hl ⊢
 exact .of_eq (h us hl)
noncomputable def lR (CX:BP) (X:Cx) (E:XK):Prop:=∀ (aq:List (Addr×Obj)) (σ:St) (H:Hp) (s:Shared) (e:Value) (s':Shared),Inv X aq σ H s->CX X.stack H s E e s'->X.xe e s'
section
variable {X:Cx} {CX:BP} {k:Nat} {f C:Addr} {fd:FuncData} {ps:List Str} {sp:Sp} {dvs:List V} {ds:List Value} {E:XK} {x m:Str} {p pos apos:Pos} {e o:Expr} {es:List Expr} {ta:TE} {t:TA}
theorem xX (F:aQ X.prog X.w X.K X.mg X.base CX k f fd ps sp) (hr:bR k X.A) (hb:Binds X.K fd ps ds) (hd:Vals dvs ds) (hx:lR CX X E)
 (I:Inv X aq σ H s) (r:Vals vs us) (h:sp (vs++dvs) H Q E):wpAny (model X.prog X.w) X.A (call (.ref f) us) (EP X aq σ Q) X.xe s:=by
 have r2:Vals (vs++dvs) (us++ds):=r.append hd
 have hl:(us++ds).length=ps.length:=by rw [← r2.length];exact F.len _ _ _ _ h
 refine wpAny_call (codeAny_mono (F.run X.A X.stack s H ⟨us,[]⟩ (us++ds) (vs++dvs) Q E hr I.env0 (hb s us I.kIn hl) r2 h) fun r s' hq=>?_)
 cases r with
 |error e=>exact hx aq σ H s e s' I hq
 | ok fl=>
   cases fl with
   |ret u=>exact I.after hq
   |next=>exact False.elim hq
   |brk=>exact False.elim hq
   |cont=>exact False.elim hq
theorem jC (F:aQ X.prog X.w X.K X.mg X.base CX k f fd ps sp) (hr:bR k X.A) (hg:Gl X x) (hm:X.mg x=some (.ref f)) (hk:PySem.W.keepIn X.K (.ref f)=true) (hb:Binds X.K fd ps ds) (hd:Vals dvs ds) (hx:lR CX X E)
 (ha:PA X (e::es) t) (hdb:(x == ("__debug__" : Str))=false:=by decide) (he:starEach (e::es) X.env=(false,eval e X.env)::starEach es X.env:=by rfl) (hpl:(backTo pos (starEach es X.env)).any (·.1)=false:=by rfl) :
 PE X (.Call (.Name x p) (e::es) [] pos) (mz sp dvs E t):=by
 intro aq s σ H Q I h
 refine wpAny_Call_Name_kw (qQ I hg hm ?_ hdb)
 refine PySem.W.callWith_K (h₀:=X.base) I.ok.mod.kin hk (cI (ha pos aq s σ H _ I h) fun us s1 ⟨vs,H1,I1,r,q⟩=>⟨I1.kIn,?_⟩) he hpl
 exact xX F hr hb hd hx I1 r q
theorem vh {pl:Sem Bool} (he:PE X o ta) (c:As X.K C) (hm:Meth X.K C m f) (F:aQ X.prog X.w X.K X.mg X.base CX k f fd ps sp) (hr:bR k X.A) (hb:Binds X.K fd ps ds) (hd:Vals dvs ds) (hx:lR CX X E) (ha:PA X (e::es) t)
 (hst:starEach (e::es) X.env=(false,eval e X.env)::starEach es X.env:=by rfl) (hpl:(backTo pos (starEach es X.env)).any (·.1)=false:=by rfl)
 (ht:eval (.Call (.Attribute o m apos) (e::es) [] pos) X.env=(do
  let ov ← eval o X.env
  standAt apos.atName
  let (f,first) ← holding [ov] (getMethod ov m pl)
  callWith pos f first (backTo pos (starEach (e::es) X.env)) (backToKw pos (keywordEach [] X.env))):=by rfl) :
 PE X (.Call (.Attribute o m apos) (e::es) [] pos) (Ir C m sp dvs E ta t):=by
 intro aq s σ H Q I h
 refine PySem.W.methodCall_KW (pl:=pl) (cI (he aq s σ H _ I h) fun u s1 ⟨x,H1,I1,rx,a,dx,fs,ex,ea,l,q⟩=>?_) ht
 subst ex
 obtain rfl:u=Value.ref a:=rx
 refine nU I1 ea c hm l ?_
 refine PySem.W.callWith_K (first:=[.ref a]) (h₀:=X.base) I.ok.mod.kin hm.kp (cI (ha pos aq s1 σ H1 _ I1 q) fun us s2 ⟨vs,H2,I2,r,q2⟩=>⟨I2.kIn,?_⟩) hst hpl
 exact xX (us:=.ref a::us) (vs:=.ref a::vs) F hr hb hd hx I2 (.cons rfl r) q2
structure Mk (K:PySem.W.Frag) (C f:Addr):Prop where
 makes:PySem.W.makesIn K C=true
 init:PySem.W.findIn K (.ref C) "__init__" = some (some (.ref f))
 fn:PySem.W.isFn K (.ref f)=true
 kp:PySem.W.keepIn K (.ref C)=true
theorem yX (M:Mk X.K C f) (F:aQ X.prog X.w X.K X.mg X.base CX k f fd ps sp) (hr:bR (k+1) X.A) (hb:Binds X.K fd ps ds) (hd:Vals dvs ds)
 (hx:lR CX X E) (I:Inv X aq σ H s) (r:Vals vs us)
 (h:∀ x dx,H x=none->H dx=none->dx≠x->sp (.ref x::(vs++dvs)) (upd (upd H dx (.own x)) x (.ins C dx [])) (fun v H2=>v=.non/\Q (.ref x) H2) E) :
 wpAny (model X.prog X.w) X.A (call (.ref C) us) (EP X aq σ Q) X.xe s:=by
 have hq:=h (s.heap.objs.size+1) s.heap.objs.size (I.hok.fresh (Nat.le_succ _)) (I.hok.fresh (Nat.le_refl _)) (Nat.ne_of_lt (Nat.lt_succ_self _))
 have I2:=Inv.made (C:=C) I
 have r2:Vals (V.ref (s.heap.objs.size+1)::(vs++dvs)) (Value.ref (s.heap.objs.size+1)::(us++ds)):=.cons rfl (r.append hd)
 have hl:(Value.ref (s.heap.objs.size+1)::us++ds).length=ps.length:=by
  have e:=r2.length
  rw [F.len _ _ _ _ hq] at e
  exact e.symm
 refine wpAny_call (zA (f:=f) I.kIn M.makes M.init (beq_iff_eq.mp M.fn) (codeAny_mono (F.run _ X.stack _ _ ⟨Value.ref (s.heap.objs.size+1)::us,[]⟩ (Value.ref (s.heap.objs.size+1)::(us++ds)) _ _ E (hr.make C us [])
  (I2.env0.make C us []) (hb _ (Value.ref (s.heap.objs.size+1)::us) I2.kIn hl) r2 hq) fun r s' hq'=>?_))
 cases r with
 |error e=>exact hx aq σ _ _ e s' I2 hq'
 | ok fl=>
   cases fl with
   | ret u=>
     obtain ⟨v,H',I3,rv,ev,q3⟩:=I2.after hq'
     subst ev
     exact ⟨rv,⟨V.ref (s.heap.objs.size+1),H',I3,rfl,q3⟩⟩
   |next=>exact False.elim hq'
   |brk=>exact False.elim hq'
   |cont=>exact False.elim hq'
theorem CG (M:Mk X.K C f) (F:aQ X.prog X.w X.K X.mg X.base CX k f fd ps sp) (hr:bR (k+1) X.A) (hg:Gl X x) (hm:X.mg x=some (.ref C)) (hb:Binds X.K fd ps ds) (hd:Vals dvs ds) (hx:lR CX X E)
 (ha:PA X (e::es) t) (hdb:(x == ("__debug__" : Str))=false:=by decide) (he:starEach (e::es) X.env=(false,eval e X.env)::starEach es X.env:=by rfl) (hpl:(backTo pos (starEach es X.env)).any (·.1)=false:=by rfl) :
 PE X (.Call (.Name x p) (e::es) [] pos) (JH C sp dvs E t):=by
 intro aq s σ H Q I h
 refine wpAny_Call_Name_kw (qQ I hg hm ?_ hdb)
 refine PySem.W.callWith_K (h₀:=X.base) I.ok.mod.kin M.kp (cI (ha pos aq s σ H _ I h) fun us s1 ⟨vs,H1,I1,r,q⟩=>⟨I1.kIn,?_⟩) he hpl
 exact yX M F hr hb hd hx I1 r q
end
structure aU (N P:List Str) (sc:Scope):Prop where
 kind:sc.kind=.function
 co:sc.isCoroutine=false
 gen:sc.isGenerator=false
 nd:N.Nodup
 pre:N.take P.length=P
 par:∀ x∈P,sc.names.lookup x=some .local∨sc.names.lookup x=some .cell
 nofree:∀ y∈sc.names,y.2≠.free
theorem pR {kindOf:Str->Option NameKind} {x:Str}:∀ {binds:List (Str×Value)} {m:Str->Option Value},(∀ v,(x,v)∉binds)->bindL kindOf binds m x=m x
 |[],_,_=>rfl
 | (n,v)::r,m,h=>by
   unfold bindL
   rw [pR fun w hw=>h w (List.mem_cons_of_mem _ hw)]
   split
   ·have:x≠n:=by rintro rfl;exact h v List.mem_cons_self
    simp [this]
   ·rfl
theorem pH {kindOf:Str->Option NameKind} {x:Str}:∀ {binds:List (Str×Value)} {m:Str->Option Value},(∀ v,(x,v)∉binds)->bindC kindOf binds m x=m x
 |[],_,_=>rfl
 | (n,v)::r,m,h=>by
   unfold bindC
   rw [pH fun w hw=>h w (List.mem_cons_of_mem _ hw)]
   split
   ·rfl
   ·have:x≠n:=by rintro rfl;exact h v List.mem_cons_self
    simp [this]
theorem pN {kindOf:Str->Option NameKind}:∀ {P:List Str} {vs:List Value} {i:Nat} {m:Str->Option Value},P.Nodup->P[i]?=some x->vs[i]?=some v->kindOf x=some .local->
 bindL kindOf (P.zip vs) m x=some v
 |[],_,_,_,_,h,_,_=>by simp at h
 |_::_,[],_,_,_,_,h,_=>by simp at h
 | p::P,w::vs,0,m,nd,h1,h2,hk=>by
   simp at h1 h2;subst h1;subst h2
   show bindL kindOf ((p,w)::P.zip vs) m p=_
   unfold bindL
   rw [pR fun v hv=>(List.nodup_cons.mp nd).1 (List.of_mem_zip hv).1,if_pos hk]
   simp
 | p::P,w::vs,i+1,m,nd,h1,h2,hk=>by
   show bindL kindOf ((p,w)::P.zip vs) m x=_
   unfold bindL
   exact pN (i:=i) (List.nodup_cons.mp nd).2 (by simpa using h1) (by simpa using h2) hk
theorem ph {kindOf:Str->Option NameKind}:∀ {P:List Str} {vs:List Value} {i:Nat} {m:Str->Option Value},P.Nodup->P[i]?=some x->vs[i]?=some v->kindOf x≠some .local->
 bindC kindOf (P.zip vs) m x=some v
 |[],_,_,_,_,h,_,_=>by simp at h
 |_::_,[],_,_,_,_,h,_=>by simp at h
 | p::P,w::vs,0,m,nd,h1,h2,hk=>by
   simp at h1 h2;subst h1;subst h2
   show bindC kindOf ((p,w)::P.zip vs) m p=_
   unfold bindC
   rw [pH fun v hv=>(List.nodup_cons.mp nd).1 (List.of_mem_zip hv).1,if_neg hk]
   simp
 | p::P,w::vs,i+1,m,nd,h1,h2,hk=>by
   show bindC kindOf ((p,w)::P.zip vs) m x=_
   unfold bindC
   exact ph (i:=i) (List.nodup_cons.mp nd).2 (by simpa using h1) (by simpa using h2) hk
noncomputable def start (N:List Str) (vs:List V):St:=vs.map some++List.replicate (N.length-vs.length) none
noncomputable def uG (CX:BP) (P:Program) (w:World) (K:PySem.W.Frag) (mg:Str->Option Value) (base:Heap) (N:List Str) (qual:Str) (scope:Scope) (f:Addr) (cd:Value) (A:Around) (outer:List Env) (s:Shared) (H:Hp) (E:XK):Cx where
 prog:=P
 w:=w
 K:=K
 mg:=mg
 base:=base
 A:=A.deeper (envOfC qual scope s.heap.objs.size f cd)
 N:=N
 s₀:=s
 H₀:=H
 env:=envOfC qual scope s.heap.objs.size f cd
 outer:=outer
 stack:=envOfC qual scope s.heap.objs.size f cd::outer
 ex:=[]
 calm:=true
 fn:=fun _=>true
 pn:=[]
 xe:=fun e s'=>wpAny (model P w) (A.deeper (envOfC qual scope s.heap.objs.size f cd)) (leaving (envOfC qual scope s.heap.objs.size f cd) e) (fun _ s''=>CX outer H s E e s'') (fun e' s''=>CX outer H s E e' s'') s'
theorem qU {sc:Scope} (h:sc.names.lookup x=some .cell):∃ c,(cellsFrom n sc.names []).lookup x=some c:=by
 have q:=PySem.W.cellsFrom_some sc.names n [] (.inl h)
 exact Option.isSome_iff_exists.mp q
theorem vY {CX:BP} {P:Program} {w:World} {K:PySem.W.Frag} {mg:Str->Option Value} {base:Heap} {N ps:List Str} {qual:Str} {scope:Scope} {f:Addr} {cd:Value} {A:Around} {outer:List Env} {s s1:Shared} {H:Hp} {E:XK} {us:List Value} {vs:List V}
 (S:aU N ps scope) (hd:A.handled=none) (e0:tY P w K mg base A outer s H) (hl:vs.length=ps.length) (r:Vals vs us)
 (x:InCallC s s.heap.objs.size (bindL (envOfC qual scope s.heap.objs.size f cd).kindOf (ps.zip us) fun _=>none) (cellsFrom (s.heap.objs.size+1) scope.names []) (bindC (envOfC qual scope s.heap.objs.size f cd).kindOf (ps.zip us) fun _=>none) s1) :
 Inv (uG CX P w K mg base N qual scope f cd A outer s H E) [] (start N vs) H s1:=by
 have hpl:ps.length≤N.length:=by have:=congrArg List.length S.pre;rw [List.length_take] at this;lia
 obtain ⟨h1,tk,rfl,hk⟩:=x.done
 have noA:∀ b:Addr,b∉(uG CX P w K mg base N qual scope f cd A outer s H E).ex:=fun b z=>absurd (show b∈([]:List Addr) from z) (by simp)
 refine ⟨⟨e0.mod,S.kind,rfl,rfl,Nat.le_refl _,fun y z c h1 h2=>?_,fun y hy=>?_,fun y c _ h=>?_,fun _=>hd,Around.frames_deeper e0.frames,.inr ⟨rfl,rfl⟩,fun b z=>absurd z (noA b),e0.bs,e0.bsz,fun b _ _=>noA b,fun b z=>absurd z (noA b),e0.funs,e0.frf⟩,
  rfl,e0.bare,Un.kept hk,⟨_,x.toInCall.ns,fun i y v h1 h2 h3=>?_⟩,fun y c h=>⟨_,x.cell y c h⟩,e0.hok.fresh (Nat.le_refl _),fun y c h=>?_,fun p hp=>absurd (show p∈([]:List (Addr×Obj)) from hp) (by simp),e0.hok.kept hk,?_⟩
 ·exact name_of_addr x.apart (PySem.mem_of_lookup h1) (PySem.mem_of_lookup h2)
 ·have hy:scope.names.lookup y=some .cell∨scope.names.lookup y=some .free:=hy
  rcases hy with hy|hy
  ·exact qU hy
  ·exact absurd rfl (S.nofree _ (PySem.mem_of_lookup hy))
 ·exact Nat.le_of_lt (x.above y c (PySem.mem_of_lookup h))
 ·have hi:i<vs.length:=by
   unfold start at h2
   by_cases hi:i<vs.length
   ·exact hi
   ·rw [List.getElem?_append_right (by simpa using hi)] at h2
    rw [List.getElem?_replicate] at h2
    split at h2 <;> cases h2
  have ha:vs[i]?=some v:=by
   unfold start at h2
   rw [List.getElem?_append_left (by simpa using hi),List.getElem?_map] at h2
   cases e:vs[i]? with
   |none=>rw [e] at h2;cases h2
   |some a=>rw [e] at h2;cases h2;rfl
  obtain ⟨u,hu,rv⟩:=r.get ha
  have hp:ps[i]?=some y:=by
   rw [← S.pre,List.getElem?_take_of_lt (by lia)];exact h1
  have ndP:ps.Nodup:=by rw [← S.pre];exact S.nd.sublist (List.take_sublist _ _)
  refine ⟨u,rv,?_⟩
  rcases S.par y (List.mem_of_getElem? hp) with k|k
  ·exact .inl ⟨k,pN ndP hp hu k⟩
  ·obtain ⟨c,e⟩:=qU (n:=s.heap.objs.size+1) k
   refine .inr ⟨.inl k,c,e,?_⟩
   have q:=x.cell y c e
   rw [ph ndP hp hu (by show scope.names.lookup y≠_;rw [k];decide)] at q
   exact q
 ·exact e0.hok.fresh (Nat.le_of_lt (x.above y c (PySem.mem_of_lookup h)))
 ·unfold start
  show _=N.length
  rw [List.length_append,List.length_map,List.length_replicate]
  lia
theorem C_ {CX:BP} {P:Program} {w:World} {K:PySem.W.Frag} {mg:Str->Option Value} {base:Heap} {k:Nat} {f:Addr} {name qual:Str} {params:Arguments} {body:List Stmt} {scope:Scope} {dV kV doc pm cdv ct oc:Value} {an od:Option Addr}
 {osl:Array (Option Value)} {N ps:List Str} {sp:Sp} (lk:K.lookup f=some ⟨oc,od,.func (PySem.W.fnOf name qual params body scope dV kV doc pm an cdv ct),osl⟩) (hcd:PySem.W.codeIn K cdv qual=true) (S:aU N ps scope)
 (len:∀ vs H Q E,sp vs H Q E->vs.length=ps.length)
 (hbody:∀ (A:Around) (outer:List Env) (s:Shared) (H:Hp) (vs:List V) (Q:VK) (E:XK),bR k (A.deeper (envOfC qual scope s.heap.objs.size f cdv))->sp vs H Q E->
  ∃ t,uT (uG CX P w K mg base N qual scope f cdv A outer s H E) body t/\t { nx:=fun _ H'=>Q .non H',rt:=Q } (start N vs) H) :
 aQ P w K mg base CX (k+1) f (PySem.W.fnOf name qual params body scope dV kV doc pm an cdv ct) ps sp:=by
 refine ⟨len,fun A outer s H args us vs Q E hr e0 hb r hsp=>?_⟩
 have hl:=len _ _ _ _ hsp
 have KX:K.In s.heap:=e0.mod.kin.keeps fun b o e=>(e0.bs b o e).1
 have lim:s.heap.NoLimit:=e0.mod.nolimit.keeps fun b o e=>(e0.bs b o e).1
 have hkind:∀ y∈ps.zip us,scope.names.lookup y.1=some .local∨(scope.names.lookup y.1=some .cell/\((cellsFrom (s.heap.objs.size+1) scope.names []).lookup y.1).isSome=true):=fun ⟨n,v⟩ hy=>by
  rcases S.par n (List.of_mem_zip hy).1 with q|q
  ·exact .inl q
  ·exact .inr ⟨q,PySem.W.cellsFrom_some _ _ _ (.inl q)⟩
 refine codeAny_call_function hr.depth (KX _ _ lk) rfl S.co S.gen rfl (PySem.W.codeRec_of KX hcd) (hb _ _ _ _ ?_)
 refine wpAny_newFunctionEnv_cells S.kind hkind fun env he s1 x=>?_
 subst he
 refine ⟨lim.keeps x.toInCall.keep,codeAny_func ?_⟩
 obtain ⟨t,ht,hq⟩:=hbody A outer s H vs Q E (hr.deeper _) hsp
 have I:Inv (uG CX P w K mg base N qual scope f cdv A outer s H E) [] (start N vs) H s1:=vY S hr.hd e0 hl r x
 refine wpAny_mono (ht [] s1 (start N vs) H _ I hq) (fun fl s' hs=>?_) fun e s' hs=>hs
 have fin:∀ {σ':St} {H':Hp} {v:V} {u:Value},Inv (uG CX P w K mg base N qual scope f cdv A outer s H E) [] σ' H' s'->RelV v u->Q v H'->CE outer P w H s Q u s':=
  fun {σ' H' v u} J rv q=>⟨v,H',J.os,J.bare,J.base,J.hok,rv,q⟩
 cases fl with
 | ret u=>
   obtain ⟨v,σ',H',J,rv,q⟩:=hs
   exact fin J rv q
 | next=>
   obtain ⟨σ',H',J,q⟩:=hs
   exact fin (v:=V.non) (u:=Value.none) J rfl q
 | brk=>
   obtain ⟨_,_,_,q⟩:=hs
   exact False.elim q
 | cont=>
   obtain ⟨_,_,_,q⟩:=hs
   exact False.elim q
section
variable {X:Cx} {x:Str} {p pos:Pos} {e:Expr} {es:List Expr} {t:TA} {id T:String} {r:List V->Hp->VK->Prop}
noncomputable def Py (r:List V->Hp->VK->Prop) (t:TA):TE:=fun σ H Q=>t σ H fun vs H1=>r vs H1 Q
theorem aG (hc:gD X (.builtin id) r) (hg:Gl X x) (hm:X.mg x=none) (hv:bootBuiltins x=some (.builtin id)) (ha:PA X (e::es) t) (hn:x ≠ "__name__":=by decide) (hdb:(x == ("__debug__" : Str))=false:=by decide)
 (he:starEach (e::es) X.env=(false,eval e X.env)::starEach es X.env:=by rfl) (hpl:(backTo pos (starEach es X.env)).any (·.1)=false:=by rfl):PE X (.Call (.Name x p) (e::es) [] pos) (Py r t):=by
 intro aq s σ H Q I h
 refine wpAny_Call_Name_kw (gG I hg hm hv ?_ hn hdb)
 exact PyProof.Rows.callWith_builtin1 (cI (ha pos aq s σ H _ I h) fun us s1 ⟨vs,H1,I1,r1,q1⟩=>hc aq s1 σ H1 vs us Q I1 r1 q1) he hpl
theorem g8 (hc:gD X (.type T) r) (hg:Gl X x) (hm:X.mg x=none) (hv:bootBuiltins x=some (.type T)) (ha:PA X (e::es) t) (hn:x ≠ "__name__":=by decide) (hdb:(x == ("__debug__" : Str))=false:=by decide)
 (he:starEach (e::es) X.env=(false,eval e X.env)::starEach es X.env:=by rfl) (hpl:(backTo pos (starEach es X.env)).any (·.1)=false:=by rfl):PE X (.Call (.Name x p) (e::es) [] pos) (Py r t):=by
 intro aq s σ H Q I h
 refine wpAny_Call_Name_kw (gG I hg hm hv ?_ hn hdb)
 exact PyProof.Rows.callWith_type1 (cI (ha pos aq s σ H _ I h) fun us s1 ⟨vs,H1,I1,r1,q1⟩=>hc aq s1 σ H1 vs us Q I1 r1 q1) he hpl
end
end L2
namespace HT
open PySem PyProof.Rows
section
open PySem.SeqAt
open PySem.AutoSeq1 (wpAny_loadPart')
open PySem.MeetsSeq PySem.MeetsSeq2 PySem.MeetsSeq3
end
section
variable {prog:Program} {w:World} {A:Around} {E:Value->Shared->Prop} {s:Shared}
theorem Bj (ht:IsTup s.heap t vs.toArray) (hb:IsTup s.heap b ws.toArray) (hv:vs≠[])
 (h1:ws=[]->Q (.ref t) s) (h2:ws≠[]->Q (.ref s.heap.objs.size) { s with heap:=s.heap.push { cls:=.type "tuple",data:=.seq (vs++ws).toArray } })
 (hsz:vs.length+ws.length≤sizeLine):wpAny (model prog w) A (binaryOp .Add (.ref t) (.ref b)) Q E s:=by
 obtain ⟨⟨cls,dd,data,sl⟩,ho,hc,n,hd⟩:=id ht
 obtain ⟨⟨cls2,dd2,data2,sl2⟩,ho2,hc2,n2,hd2⟩:=id hb
 simp only at hc hd hc2 hd2
 subst hc hd hc2 hd2
 have e:vs.toArray++ws.toArray=(vs++ws).toArray:=by simp
 by_cases hw:ws=[]
 ·exact concat_meets ⟨_,ho,rfl⟩ ⟨_,ho2,rfl⟩ noFill_tuple_add seq_tuple_add PySem.F.slot_tuple_add PySem.F.entry_tuple_add (PySem.F.args_tuple_add_2 _ _)
   (tuple_addW1 t b vs.toArray ws.toArray n n2 dd dd2 sl sl2 (by simpa using hv) (by simp [hw])) ⟨ho,ho2,h1 hw⟩
 ·refine concat_meets ⟨_,ho,rfl⟩ ⟨_,ho2,rfl⟩ noFill_tuple_add seq_tuple_add PySem.F.slot_tuple_add PySem.F.entry_tuple_add (PySem.F.args_tuple_add_2 _ _)
   (tuple_addW2 t b vs.toArray ws.toArray n n2 dd dd2 sl sl2 (by simpa using hv) (by simpa using hw) (by rw [List.size_toArray,List.size_toArray];exact hsz)) ⟨ho,ho2,?_⟩
  rw [e]
  exact h2 hw
noncomputable def eG (n d:Nat):Option Int->Nat
 |none=>d
 |some v=>if v<0 then (v+(n:Int)).toNat else min v.toNat n
theorem lq (n d:Nat):eG n d none=d:=rfl
theorem qp (n d k:Nat):eG n d (some (k:Int))=min k n:=by
 show (if (k:Int)<0 then ((k:Int)+(n:Int)).toNat else min (k:Int).toNat n)=min k n
 rw [if_neg (by lia),Int.toNat_natCast]
theorem Er (n d:Nat) (hd:d≤n) (o:Option Int):eG n d o≤n:=by
 cases o with
 |none=>exact hd
 | some v=>
   show (if v<0 then (v+(n:Int)).toNat else min v.toNat n)≤n
   by_cases hv:v<0
   ·rw [if_pos hv];lia
   ·rw [if_neg hv];exact Nat.min_le_right _ _
theorem vp (v:Int) (n d:Nat):(if v<0 then max (v+(n:Int)) 0 else min v (n:Int))=((eG n d (some v):Nat):Int):=by
 show (if v<0 then max (v+(n:Int)) 0 else min v (n:Int))=(((if v<0 then (v+(n:Int)).toNat else min v.toNat n):Nat):Int)
 by_cases hv:v<0
 ·simp only [if_pos hv];lia
 ·simp only [if_neg hv];lia
theorem tK (lo hi:Option Int) (n:Nat):Builtin.Slice.sliceAdjust lo hi 1 (n:Int)=(((eG n 0 lo:Nat):Int),((eG n n hi:Nat):Int)):=by
 have h1:¬ ((1:Int)<0):=by lia
 unfold Builtin.Slice.sliceAdjust
 simp only [h1,if_false]
 refine Prod.ext ?_ ?_
 ·cases lo with
  |none=>rfl
  |some v=>exact vp v n 0
 ·cases hi with
  |none=>rfl
  |some v=>exact vp v n n
theorem ue (i j:Nat):Builtin.Slice.slicePlaces (i:Int) (j:Int) 1=j-i:=by
 unfold Builtin.Slice.slicePlaces
 have h1:(1:Int) > 0:=by lia
 simp only [h1,if_true,Int.ediv_one]
 split <;> lia
theorem nQ (p:IsPart v o) (h:Q o s):wpAny (model prog w) A (Builtin.Slice.slicePartIndex v) Q E s:=by
 cases p with
 |none=>exact slicePart_none h
 |int i t=>exact slicePart_int h
theorem iG {sl:Addr} {vl vu:Value} {lo hi:Option Int} {n:Nat} {Q:Int×Int×Nat->Shared->Prop} (hs:s.heap.IsSliceOf sl vl vu .none) (pl:IsPart vl lo) (pu:IsPart vu hi)
 (h:Q (((eG n 0 lo:Nat):Int),1,eG n n hi-eG n 0 lo) s):wpAny (model prog w) A (Builtin.Slice.sliceApplied (.ref sl) (pure (n:Int))) Q E s:=by
 obtain ⟨os,hos,hcs,hds⟩:=id hs
 unfold Builtin.Slice.sliceApplied Builtin.Slice.sliceFields
 refine wpAny_bind (wpAny_bind (wpAny_field hos hds (x:=vl) rfl (wpAny_bind (wpAny_field hos hds (x:=vu) rfl (wpAny_bind (wpAny_field hos hds (x:=.none) rfl (wpAny_pure ?_)))))))
 refine wpAny_bind (slicePart_none ?_)
 show wpAny _ _ (if ((1:Int) == 0)=true then _ else _) _ _ s
 rw [if_neg (by decide)]
 refine wpAny_bind (nQ pl (wpAny_bind (nQ pu (wpAny_bind (wpAny_pure ?_)))))
 show wpAny _ _ (match Builtin.Slice.sliceAdjust lo hi 1 (n:Int) with|(lo,hi)=>pure (lo,(1:Int),Builtin.Slice.slicePlaces lo hi 1)) _ _ s
 rw [tK lo hi n]
 show wpAny _ _ (pure (((eG n 0 lo:Nat):Int),(1:Int),Builtin.Slice.slicePlaces ((eG n 0 lo:Nat):Int) ((eG n n hi:Nat):Int) 1)) _ _ s
 rw [ue]
 exact wpAny_pure h
theorem Ak (xs:Array Value) (i k:Nat):((List.range k).filterMap fun (m:Nat)=>xs[((i:Int)+(m:Int)*1).toNat]?).toArray=((xs.toList.drop i).take k).toArray:=by
 have e:(fun (m:Nat)=>xs[((i:Int)+(m:Int)*1).toNat]?)=fun m=>xs[i+m]?:=by
  funext m
  have:((i:Int)+(m:Int)*1).toNat=i+m:=by lia
  rw [this]
 rw [e]
 have:=pick_run xs i k
 rw [List.filterMap_map] at this
 have e2:((fun x=>xs[x]?) ∘ fun x=>i+x)=fun m=>xs[i+m]?:=rfl
 rw [e2] at this
 rw [this]
theorem lD {t sl:Addr} {items:Array Value} {vl vu:Value} {lo hi:Option Int} {Q:Value->Shared->Prop} (ht:IsTup s.heap t items) (hs:s.heap.IsSliceOf sl vl vu .none) (pl:IsPart vl lo) (pu:IsPart vu hi)
 (hw:¬ (eG items.size 0 lo=0/\eG items.size items.size hi=items.size))
 (h:Q (.ref s.heap.objs.size) { s with heap:=s.heap.push { cls:=.type "tuple",data:=.seq ((items.toList.drop (eG items.size 0 lo)).take (eG items.size items.size hi-eG items.size 0 lo)).toArray } })
 (hsz:items.size≤sizeLine):wpAny (model prog w) A (getItem (.ref t) (.ref sl)) Q E s:=by
 have htake:sizeOk (.seq ((items.toList.drop (eG items.size 0 lo)).take (eG items.size items.size hi-eG items.size 0 lo)).toArray):=by
  show ((items.toList.drop (eG items.size 0 lo)).take (eG items.size items.size hi-eG items.size 0 lo)).toArray.size≤sizeLine
  rw [List.size_toArray,List.length_take,List.length_drop,Array.length_toList]
  lia
 have hj:eG items.size items.size hi≤items.size:=Er _ _ (Nat.le_refl _) hi
 obtain ⟨os,hos,hcs,hds⟩:=id hs
 have hTs:s.TypeIs (.ref sl) "slice":=⟨os,hos,hcs⟩
 unfold getItem
 try with_reducible refine wpAny_holding ?_
 first|refine wpAny_bind (wpAny_pure ?_)|skip
 refine wpAny_bind (wpAny_sequenceKey ht.typeIs (by decide) ?_)
 refine wpAny_bind (wpAny_callSpecial?_slot (name:=Str.ofString "__getitem__") ht.typeIs PyProof.Rows.slot_tuple_getitem
  (wpAny_call_entry PyProof.Rows.slot_tuple_getitem ht.typeIs entry_tuple_getitem ?_ (args_tuple_getitem _ _)))
 show wpAny _ _ (Builtin.Tuple.tupleItemsOf (.ref t) >>= _) _ _ s
 refine wpAny_bind (tupleItemsOf_ ht ?_)
 refine wpAny_bind (wpAny_typeOf hTs ?_)
 rw [if_pos (by decide)]
 refine wpAny_bind (iG hs pl pu ?_)
 have hno:¬ ((((eG items.size 0 lo:Nat):Int) == 0 && (1:Int) == 1 && (eG items.size items.size hi-eG items.size 0 lo) == items.size)=true):=by
  intro q
  rw [Bool.and_eq_true,Bool.and_eq_true] at q
  have q1:((eG items.size 0 lo:Nat):Int)=0:=eq_of_beq q.1.1
  have q2:eG items.size items.size hi-eG items.size 0 lo=items.size:=eq_of_beq q.2
  exact hw ⟨by lia,by lia⟩
 show wpAny _ _ (if (((eG items.size 0 lo:Nat):Int) == 0 && (1:Int) == 1 && (eG items.size items.size hi-eG items.size 0 lo) == items.size)=true then _ else _) _ _ s
 rw [if_neg hno,Ak]
 first
  |exact wpAny_bind (m:=Builtin.Tuple.tupleExact _) (wpAny_newObj_type (wpAny_pure ⟨_,rfl,wpAny_pure h⟩) htake)
  |exact wpAny_bind (m:=Builtin.Tuple.tupleExact _) (wpAny_newObj_type (wpAny_bind (wpAny_pure (wpAny_pure ⟨_,rfl,wpAny_pure h⟩))) htake)
  |exact wpAny_bind (wpAny_bind (m:=Builtin.Tuple.tupleExact _) (wpAny_newObj_type (wpAny_pure (wpAny_pure ⟨_,rfl,wpAny_pure h⟩)) htake))
  |exact wpAny_bind (wpAny_bind (m:=Builtin.Tuple.tupleExact _) (wpAny_newObj_type (wpAny_pure ⟨_,rfl,wpAny_pure h⟩) htake))
end
end HT
namespace L2
open PySem PySem.Spec PyProof.Rows
noncomputable abbrev TO:=St->Hp->(Option Int->Hp->Prop)->Prop
noncomputable def PO (X:Cx) (e:Option Expr) (t:TO):Prop:=
 ∀ (aq:List (Addr×Obj)) (s:Shared) (σ:St) (H:Hp) (Q:Option Int->Hp->Prop),Inv X aq σ H s->t σ H Q->
   wpAny (model X.prog X.w) X.A (evalPart e X.env) (fun u s'=>∃ o H',Inv X aq σ H' s'/\IsPart u o/\Q o H') X.xe s
noncomputable def mZ:TO:=fun _ H Q=>Q none H
noncomputable def Kh (t:TE):TO:=fun σ H Q=>t σ H fun x H1=>∃ i,x=.int i/\Q (some i) H1
section
variable {X:Cx} {e:Expr} {te:TE} {lo hi:Option Expr} {tl th:TO} {pos p2:Pos}
theorem cW:PO X none mZ:=by
 intro aq s σ H Q I h
 rw [evalPart_none]
 exact wpAny_pure ⟨none,H,I,.none,h⟩
theorem cR (h:PE X e te):PO X (some e) (Kh te):=by
 intro aq s σ H Q I hw
 rw [evalPart_some]
 refine cI (h aq s σ H _ I hw) fun u s1 ⟨x,H1,I1,r1,q1⟩=>?_
 obtain ⟨i,rfl,q⟩:=q1
 obtain ⟨t,rfl⟩:=r1
 exact ⟨some i,H1,I1,.int i t,q⟩
noncomputable def Jl (X:Cx) (r:V->Option Int->Option Int->Hp->VK->Prop):Prop:=
 ∀ (aq:List (Addr×Obj)) (s:Shared) (σ:St) (H:Hp) (x:V) (v vl vu:Value) (lo hi:Option Int) (sl:Addr) (Q:VK),Inv X aq σ H s->RelV x v->s.heap.IsSliceOf sl vl vu .none->IsPart vl lo->IsPart vu hi->r x lo hi H Q->
   ∃ T id,typeLookup (.type T) "__getitem__" = pure (some (.builtin id))/\s.TypeIs v T/\wpAny (model X.prog X.w) X.A (getItem v (.ref sl)) (EP X aq σ Q) X.xe s
noncomputable def Qz (r:V->Option Int->Option Int->Hp->VK->Prop) (te:TE) (tl th:TO):TE:=fun σ H Q=>te σ H fun x H1=>tl σ H1 fun l H2=>th σ H2 fun u H3=>r x l u H3 Q
theorem cG {r:V->Option Int->Option Int->Hp->VK->Prop} (hr:Jl X r) (he:PE X e te) (hl:PO X lo tl) (hu:PO X hi th):PE X (.Subscript e (.Slice lo hi none p2) pos) (Qz r te tl th):=by
 intro aq s σ H Q I h
 refine Subscript_ (cI (he aq s σ H _ I h) fun v s1 ⟨x,H1,I1,r1,q1⟩=>?_)
 refine wpAny_Slice (cI (hl aq s1 σ H1 _ I1 q1) fun vl s2 ⟨l,H2,I2,pl,q2⟩=>cI (hu aq s2 σ H2 _ I2 q2) fun vu s3 ⟨u,H3,I3,pu,q3⟩=>?_)
 rw [evalPart_none]
 refine wpAny_pure ?_
 have I4:Inv X aq σ H3 { s3 with heap:=s3.heap.push { cls:=.type "slice",data:=.fields #[vl,vu,.none] } }:=I3.kept (t':=s3.toks) fun b ob q=>Heap.get?_push_of_some _ q
 obtain ⟨T,id,hT,ht,hg⟩:=hr aq { s3 with heap:=s3.heap.push { cls:=.type "slice",data:=.fields #[vl,vu,.none] } } σ H3 x v vl vu l u s3.heap.objs.size Q I4 r1 (Heap.IsSliceOf.new ..) pl pu q3
 show wpAny (model X.prog X.w) X.A (subscriptTail e (.Slice lo hi none p2) v (.ref s3.heap.objs.size)) (EP X aq σ Q) X.xe { s3 with heap:=s3.heap.push { cls:=.type "slice",data:=.fields #[vl,vu,.none] } }
 exact tail_any (ops:=[.ref s3.heap.objs.size,v]) ht hT hg (by with_unfolding_all rfl)
noncomputable def jj (xs:List V) (lo hi:Option Int):List V:=(xs.drop (HT.eG xs.length 0 lo)).take (HT.eG xs.length xs.length hi-HT.eG xs.length 0 lo)
theorem mD (xs:List V) (lo hi:Option Int):(jj xs lo hi).length≤xs.length:=by
 unfold jj
 rw [List.length_take,List.length_drop]
 lia
noncomputable def Om (K:PySem.W.Frag):V->Option Int->Option Int->Hp->VK->Prop:=fun x lo hi H Q=>∃ a xs,x=.ref a/\bD K H a xs/\
 ¬ (HT.eG xs.length 0 lo=0/\HT.eG xs.length xs.length hi=xs.length)/\∀ p,H p=none->Q (.ref p) (upd H p (.tup (jj xs lo hi)))
theorem Hf:Jl X (Om X.K):=by
 intro aq s σ H x v vl vu lo hi sl Q I rx hs pl pu h
 obtain ⟨a,xs,rfl,hx,hw,q⟩:=h
 cases rx
 obtain ⟨its,r,ht,hz⟩:=I.tuple hx
 have hlen:its.toArray.size=xs.length:=by rw [List.size_toArray];exact r.length.symm
 refine ⟨"tuple",_,PyProof.Rows.slot_tuple_getitem.lookup,ht.typeIs,?_⟩
 refine HT.lD ht hs pl pu (by rw [hlen];exact hw) ?_ (by rw [hlen];exact hz)
 rw [hlen]
 refine ⟨.ref s.heap.objs.size,_,I.laid (t':=s.toks) (o:=.tup (jj xs lo hi)) (fun b ob q=>Heap.get?_push_of_some _ q) (Nat.le_refl _) ?_,rfl,q _ (I.hok.fresh (Nat.le_refl _))⟩
 exact ⟨Nat.le_trans (mD xs lo hi) hz,_,(r.drop (HT.eG xs.length 0 lo)).take (HT.eG xs.length xs.length hi-HT.eG xs.length 0 lo),IsTup.new _ _⟩
noncomputable def M6 (K:PySem.W.Frag):R2:=fun x y H Q=>∃ a b xs ys,x=.ref a/\y=.ref b/\bD K H a xs/\bD K H b ys/\xs≠[]/\xs.length+ys.length≤sizeLine/\
 (ys=[]->Q (.ref a) H)/\(ys≠[]->∀ p,H p=none->Q (.ref p) (upd H p (.tup (xs++ys))))
theorem Vals.nil_iff (r:Vals xs us):us=[]↔xs=[]:=by
 cases r with
 |nil=>simp
 |cons _ _=>simp
theorem BL:iI X (binaryOp .Add) (M6 X.K):=by
 intro aq s σ H x y v u Q I rx ry h
 obtain ⟨a,b,xs,ys,rfl,rfl,ha,hb,hx,hz,q1,q2⟩:=h
 cases rx
 cases ry
 obtain ⟨its,r1,p1,_⟩:=I.tuple ha
 obtain ⟨its2,r2,p2,_⟩:=I.tuple hb
 refine HT.Bj p1 p2 (fun z=>hx (r1.nil_iff.mp z)) (fun z=>⟨.ref a,H,I,rfl,q1 (r2.nil_iff.mp z)⟩) (fun z=>?_) (by rw [← r1.length,← r2.length];exact hz)
 refine ⟨.ref s.heap.objs.size,_,I.laid (t':=s.toks) (o:=.tup (xs++ys)) (fun b ob q=>Heap.get?_push_of_some _ q) (Nat.le_refl _) ?_,rfl,q2 (fun w=>z (r2.nil_iff.mpr w)) _ (I.hok.fresh (Nat.le_refl _))⟩
 exact ⟨by rw [List.length_append];exact hz,_,r1.append r2,IsTup.new _ _⟩
end
noncomputable def Ao (n:Nat) (i:Int):Option Nat:=if 0≤i then (if i<n then some i.toNat else none) else if -(n:Int)≤i then some (i+n).toNat else none
noncomputable def qj {α:Type} (xs:List α) (i:Int):Option α:=(Ao xs.length i).bind fun j=>xs[j]?
theorem vA (h:Ao n i=some j):seqIndex? i n=some j/\j<n/\-(n:Int)≤i/\i<n:=by
 unfold Ao at h
 by_cases h0:0≤i
 ·rw [if_pos h0] at h
  by_cases h1:i<n
  ·rw [if_pos h1] at h
   have e:i.toNat=j:=Option.some.inj h
   exact ⟨by rw [seqIndex_of h0 h1,e],by lia,by lia,h1⟩
  ·rw [if_neg h1] at h;cases h
 ·rw [if_neg h0] at h
  by_cases h1:-(n:Int)≤i
  ·rw [if_pos h1] at h
   have e:(i+n).toNat=j:=Option.some.inj h
   exact ⟨by rw [seqIndex_neg (by lia) h1,e],by lia,h1,by lia⟩
  ·rw [if_neg h1] at h;cases h
theorem qI {α:Type} {xs:List α} {i:Int} {v:α} (h:qj xs i=some v):∃ j,seqIndex? i xs.length=some j/\xs[j]?=some v/\j<xs.length/\-(xs.length:Int)≤i/\i<xs.length:=by
 unfold qj at h
 cases e:Ao xs.length i with
 |none=>rw [e] at h;cases h
 | some j=>
   rw [e] at h
   obtain ⟨h1,h2,h3,h4⟩:=vA e
   exact ⟨j,h1,h,h2,h3,h4⟩
theorem aF {α:Type} {xs:List α} {j:Nat} {v:α} (h:xs[j]?=some v):qj xs (j:Int)=some v:=by
 have hj:j<xs.length:=(List.getElem?_eq_some_iff.mp h).1
 have e:Ao xs.length (j:Int)=some j:=by
  unfold Ao
  rw [if_pos (by lia),if_pos (by lia)];simp
 unfold qj;rw [e];exact h
noncomputable def Cg (b:Expr):Prop:=∀ o i,subscripted b false o i=operate [o,i] (getItem o i)
noncomputable def Cv (X:Cx) (r:R2):Prop:=
 ∀ (value slice:Expr) (aq:List (Addr×Obj)) (s:Shared) (σ:St) (H:Hp) (x y:V) (v u:Value) (Q:VK),Inv X aq σ H s->RelV x v->RelV y u->r x y H Q->
   subscripted slice false v u=operate [v,u] (getItem v u)->wpAny (model X.prog X.w) X.A (subscriptTail value slice v u) (EP X aq σ Q) X.xe s
noncomputable def FN (X:Cx) (id:String) (r:V->List V->Hp->VK->Prop):Prop:=
 ∀ (aq:List (Addr×Obj)) (s:Shared) (σ:St) (H:Hp) (x:V) (xs:List V) (v:Value) (us:List Value) (Q:VK),Inv X aq σ H s->RelV x v->Vals xs us->r x xs H Q->
   wpAny (model X.prog X.w) X.A (call (.builtin id) (v::us)) (EP X aq σ Q) X.xe s
theorem Cv.or (h:Cv X r) (h':Cv X r'):Cv X (fun x y H Q=>r x y H Q∨r' x y H Q):=by
 intro value slice aq s σ H x y v u Q I rx ry q hs
 rcases q with q|q
 ·exact h value slice aq s σ H x y v u Q I rx ry q hs
 ·exact h' value slice aq s σ H x y v u Q I rx ry q hs
theorem aZ (hr:Cv X r) (ha:PE X a ta) (hb:PE X b tb) (hs:Cg b):PE X (.Subscript a b pos) (Ms r ta tb):=by
 intro aq s σ H Q I h
 exact Subscript_ (FT ha hb I h fun v u s2 x y H2 I2 rx ry q=>hr a b aq s2 σ H2 x y v u Q I2 rx ry q (hs _ _))
noncomputable def By (K:PySem.W.Frag):R2:=fun x y H Q=>∃ p xs i v,x=.ref p/\y=.int i/\bF K H p xs/\qj xs i=some v/\Q v H
noncomputable def oG (K:PySem.W.Frag):R2:=fun x y H Q=>∃ p xs i v,x=.ref p/\y=.int i/\bD K H p xs/\qj xs i=some v/\Q v H
noncomputable def HJ:R2:=fun x y H Q=>∃ z i c,x=.str z/\y=.int i/\z.length≤sizeLine/\qj z.cps.toList i=some c/\Q (.str ⟨#[c]⟩) H
theorem cF {X:Cx}:Cv X (By X.K):=by
 intro value slice aq s σ H x y v u Q I rx ry h hs
 obtain ⟨p,xs,i,z,rfl,rfl,hq,he,q⟩:=h
 cases rx
 obtain ⟨t,rfl⟩:=ry
 obtain ⟨its,r,pl,hz⟩:=I.list hq
 obtain ⟨j,h1,h2,h3,h4,h5⟩:=qI he
 obtain ⟨w,ew,rw'⟩:=r.get h2
 have hl:=r.length
 have hn:=km
 have fin:EP X aq σ Q w s:=⟨z,H,I,rw',q⟩
 by_cases h0:0≤i
 ·have hj:i.toNat=j:=by
   rw [seqIndex_of h0 h5] at h1
   exact Option.some.inj h1
  exact item_listR pl.isList h0 (by lia) (by rw [hj];simpa using ew) fin hs
 ·have hj:(i+(its.toArray.size:Int)).toNat=j:=by
   rw [seqIndex_neg (by lia) h4] at h1
   rw [List.size_toArray,← hl]
   exact Option.some.inj h1
  exact subscriptTail_builtinR (x:=w) pl.isList.typeIs slot_list_getitem.lookup
   (wpAny_getItem_list_neg (Q:=fun r s'=>r=w/\EP X aq σ Q r s') pl.isList (by lia) (by rw [List.size_toArray] <;> lia) (by lia) (by rw [hj];simpa using ew) ⟨rfl,fin⟩) hs
theorem aY {X:Cx}:Cv X (oG X.K):=by
 intro value slice aq s σ H x y v u Q I rx ry h hs
 obtain ⟨p,xs,i,z,rfl,rfl,hq,he,q⟩:=h
 cases rx
 obtain ⟨t,rfl⟩:=ry
 obtain ⟨its,r,pl,hz⟩:=I.tuple hq
 obtain ⟨j,h1,h2,h3,h4,h5⟩:=qI he
 obtain ⟨w,ew,rw'⟩:=r.get h2
 have hl:=r.length
 have hn:=km
 have fin:EP X aq σ Q w s:=⟨z,H,I,rw',q⟩
 exact subscriptTail_builtinR (x:=w) pl.typeIs slot_tuple_getitem.lookup
  (getItem_tuple (j:=j) (Q:=fun r s'=>r=w/\EP X aq σ Q r s') pl (by lia) (by lia) (by rw [List.size_toArray,← hl];exact h1) (by simpa using ew) ⟨rfl,fin⟩) hs
theorem qy:Cv X HJ:=by
 intro value slice aq s σ H x y v u Q I rx ry h hs
 obtain ⟨z,i,c,rfl,rfl,hz,he,q⟩:=h
 obtain ⟨t,rfl⟩:=rx
 obtain ⟨t',rfl⟩:=ry
 obtain ⟨j,h1,h2,h3,h4,h5⟩:=qI he
 have hl:z.cps.toList.length=z.length:=by simp [Str.length]
 rw [hl] at h1 h4 h5
 have hn:=km
 exact tail_any (typeIs_str s z t) slot_str_getitem.lookup (getItem_str (c:=c) (by
  have e1:decide (i < -(2 ^ 63:Int))=false:=decide_eq_false (by lia)
  have e2:decide (i ≥ 2 ^ 63)=false:=decide_eq_false (by lia)
  rw [e1,e2,Bool.or_false]) (by rw [h1];simpa using h2) ⟨.str ⟨#[c]⟩,H,I.tok _,⟨_,rfl⟩,q⟩) hs
noncomputable def Oi (K:PySem.W.Frag):R2:=fun x y H Q=>By K x y H Q∨oG K x y H Q∨HJ x y H Q
theorem zx:Cv X (Oi X.K):=cF.or (aY.or qy)
theorem tV (its:List Value) (n j:Nat) (u:Value):Obj.mapSeq (·.setIfInBounds j u) { cls:=.type "list",data:=.seq its.toArray n }={ cls:=.type "list",data:=.seq (its.set j u).toArray n }:=by
 simp [Obj.mapSeq]
theorem Inv.lst (I:Inv X aq σ H s) (h:H p=some (.lst xs)) :
 ∃ (its:List Value) (n:Nat),Vals xs its/\s.heap.get? p=some { cls:=.type "list",data:=.seq its.toArray n }/\xs.length≤sizeLine:=by
 obtain ⟨z,its,n,r,e⟩:=I.hok p _ h
 exact ⟨its,n,r,e,z⟩
theorem Inv.lstUpd {H:Hp} {s:Shared} {ys:List V} {its its':List Value} (I:Inv X aq σ H s) (h:H p=some (.lst xs))
 (ho:s.heap.get? p=some { cls:=.type "list",data:=.seq its.toArray n }) (hf:f { cls:=.type "list",data:=.seq its.toArray n }={ cls:=.type "list",data:=.seq its'.toArray n' }) (r:Vals ys its') (hz:ys.length≤sizeLine) (t:Nat) :
 Inv X aq σ (upd H p (.lst ys)) { s with heap:=s.heap.update p f,toks:=t }:=by
 have e:(s.heap.update p f).get? p=some { cls:=.type "list",data:=.seq its'.toArray n' }:=by
  rw [Heap.get?_update_self f ho (by rw [hf] <;> rfl),hf]
 refine I.write (x:=p) (e:=p) (by rw [h];trivial) (.inl rfl) (fun b u hb q=>(Heap.get?_update_other _ _ (Ne.symm hb)).trans q) ⟨_,e⟩ ?_
 exact ⟨hz,its',n',r,e⟩
noncomputable def KH:V->V->V->Hp->(Hp->Prop)->Prop:=fun o i v H Q=>∃ p xs k j,o=.ref p/\i=.int k/\H p=some (.lst xs)/\Ao xs.length k=some j/\Q (upd H p (.lst (xs.set j v)))
theorem set_list:Lr X KH:=by
 intro aq s σ H o i v ov iv u Q I ro ri rv h
 obtain ⟨p,xs,k,j,rfl,rfl,hp,hj,q⟩:=h
 cases ro
 obtain ⟨t,rfl⟩:=ri
 obtain ⟨its,n,r,ho,hz⟩:=I.lst hp
 obtain ⟨h1,h2,h3,h4⟩:=vA hj
 have hl:=r.length
 have hn:=km
 have I':Inv X aq σ (upd H p (.lst (xs.set j v))) { s with heap:=s.heap.update p (Obj.mapSeq (·.setIfInBounds j u)) }:=
  I.lstUpd hp ho (tV its n j u) (r.set rv j) (by rw [List.length_set];exact hz) s.toks
 by_cases h0:0≤k
 ·have hk:k.toNat=j:=by
   rw [seqIndex_of h0 h4] at h1
   exact Option.some.inj h1
  exact PySem.W.ki_setAt ho h0 (by lia) (by rw [List.size_toArray,← hl];exact h4) (by rw [hk];exact ⟨_,I',q⟩)
 ·have hk:(k+(its.toArray.size:Int)).toNat=j:=by
   rw [seqIndex_neg (by lia) h3] at h1
   rw [List.size_toArray,← hl]
   exact Option.some.inj h1
  exact PySem.W.ki_setBack ho (by lia) (by rw [List.size_toArray,← hl];exact h3) (by lia) (by rw [hk];exact ⟨_,I',q⟩)
theorem qJ (lo hi:Option Int) (n:Nat):(sliceBounds lo hi none n).1=((HT.eG n 0 lo:Nat):Int)/\(sliceBounds lo hi none n).2.1=((HT.eG n n hi:Nat):Int)/\(sliceBounds lo hi none n).2.2=1:=by
 refine ⟨?_,?_,rfl⟩
 ·cases lo with
  |none=>simp [sliceBounds,HT.eG]
  | some i=>
    simp only [sliceBounds,HT.eG,Option.getD_none,show (1:Int) > 0 by decide,if_true]
    by_cases h:i<0
    ·simp only [h,if_true] <;> lia
    ·simp only [h,if_false] <;> lia
 ·cases hi with
  |none=>simp [sliceBounds,HT.eG]
  | some i=>
    simp only [sliceBounds,HT.eG,Option.getD_none,show (1:Int) > 0 by decide,if_true]
    by_cases h:i<0
    ·simp only [h,if_true] <;> lia
    ·simp only [h,if_false] <;> lia
theorem oV (its:List Value) (lo hi:Option Int):slicePick its.toArray lo hi none=((its.drop (HT.eG its.length 0 lo)).take (HT.eG its.length its.length hi-HT.eG its.length 0 lo)).toArray:=by
 obtain ⟨h1,h2,h3⟩:=qJ lo hi its.toArray.size
 unfold slicePick
 rw [h1,h2,h3]
 simp only [sliceRange_one,pick_run,List.size_toArray] <;> rfl
noncomputable def MF (K:PySem.W.Frag):V->Option Int->Option Int->Hp->VK->Prop:=fun x lo hi H Q=>∃ a xs,x=.ref a/\bF K H a xs/\∀ p,H p=none->Q (.ref p) (upd H p (.lst (jj xs lo hi)))
theorem vm:Jl X (MF X.K):=by
 intro aq s σ H x v vl vu lo hi sl Q I rx hs pl pu h
 obtain ⟨a,xs,rfl,hx,q⟩:=h
 cases rx
 obtain ⟨its,r,ht,hz⟩:=I.list hx
 have hlen:=r.length
 refine ⟨"list",_,slot_list_getitem.lookup,ht.isList.typeIs,?_⟩
 refine wpAny_getItem_list_slice ht.isList hs pl pu .none (by simp) ?_ (by rw [List.size_toArray] <;> lia)
 rw [oV,← hlen]
 refine ⟨.ref s.heap.objs.size,_,I.laid (t':=s.toks) (o:=.lst (jj xs lo hi)) (fun b ob q=>Heap.get?_push_of_some _ q) (Nat.le_refl _) ?_,rfl,q _ (I.hok.fresh (Nat.le_refl _))⟩
 exact ⟨Nat.le_trans (mD xs lo hi) hz,_,0,(r.drop (HT.eG xs.length 0 lo)).take (HT.eG xs.length xs.length hi-HT.eG xs.length 0 lo),Heap.get?_push_size _ rfl⟩
noncomputable def jP:V->Bool
 |.non=>true
 |.bl _=>true
 |.int _=>true
 |.str _=>true
 |_=>false
noncomputable def rP:V->V->Bool
 |.non,.non=>true
 |.bl a,.bl b=>a == b
 |.bl a,.int b=>(if a then 1 else 0) == b
 |.int a,.bl b=>a == (if b then 1 else 0)
 |.int a,.int b=>a == b
 |.str a,.str b=>a == b
 |_,_=>false
theorem Ey (ry:RelV y u) (rx:RelV x v) (fy:jP y=true) (fx:jP x=true):SeqAt.EqAt A s u v (rP y x):=by
 cases y with
 | non=>
   cases ry
   cases x with
   |non=>cases rx;exact SeqAt.EqAt.same _
   |bl b=>cases rx;exact SeqAt.EqAt.none_bool b
   |int b=>obtain ⟨t,rfl⟩:=rx;exact SeqAt.EqAt.none_int b t
   |str b=>obtain ⟨t,rfl⟩:=rx;exact SeqAt.EqAt.none_str b t
   |_=>exact absurd (show false=true from fx) Bool.false_ne_true
 | bl a=>
   cases ry
   cases x with
   |non=>cases rx;exact SeqAt.EqAt.bool_none a
   |bl b=>cases rx;exact SeqAt.EqAt.bool_bool a b
   |int b=>obtain ⟨t,rfl⟩:=rx;exact SeqAt.EqAt.bool_int a b t
   |str b=>obtain ⟨t,rfl⟩:=rx;exact SeqAt.EqAt.bool_str a b t
   |_=>exact absurd (show false=true from fx) Bool.false_ne_true
 | int a=>
   obtain ⟨t',rfl⟩:=ry
   cases x with
   |non=>cases rx;exact SeqAt.EqAt.int_none a t'
   |bl b=>cases rx;exact SeqAt.EqAt.int_bool a t' b
   |int b=>obtain ⟨t,rfl⟩:=rx;exact SeqAt.EqAt.int_int a t' b t
   |str b=>obtain ⟨t,rfl⟩:=rx;exact SeqAt.EqAt.int_str a t' b t
   |_=>exact absurd (show false=true from fx) Bool.false_ne_true
 | str a=>
   obtain ⟨t',rfl⟩:=ry
   cases x with
   |non=>cases rx;exact SeqAt.EqAt.str_none a t'
   |bl b=>cases rx;exact SeqAt.EqAt.str_bool a t' b
   |int b=>obtain ⟨t,rfl⟩:=rx;exact SeqAt.EqAt.str_int a t' b t
   |str b=>obtain ⟨t,rfl⟩:=rx;exact SeqAt.EqAt.str_str a t' b t
   |_=>exact absurd (show false=true from fx) Bool.false_ne_true
 |_=>exact absurd (show false=true from fy) Bool.false_ne_true
noncomputable def uc (x:V) (u:Value):Bool:=match u with
 |.none=>rP .non x
 |.bool b=>rP (.bl b) x
 |.int i _=>rP (.int i) x
 |.str z _=>rP (.str z) x
 |_=>false
theorem zu (r:RelV y u) (f:jP y=true):uc x u=rP y x:=by
 cases y with
 |non=>cases r;rfl
 |bl b=>cases r;rfl
 |int i=>obtain ⟨t,rfl⟩:=r;rfl
 |str z=>obtain ⟨t,rfl⟩:=r;rfl
 |_=>exact absurd (show false=true from f) Bool.false_ne_true
theorem kZ:∀ {xs:List V} {us:List Value},Vals xs us->xs.all jP=true->us.any (uc x)=xs.any fun y=>rP y x
 |_,_,.nil,_=>rfl
 | y::xs,u::us,.cons r t,f=>by
   rw [List.all_cons,Bool.and_eq_true] at f
   rw [List.any_cons,List.any_cons,zu r f.1,kZ t f.2]
theorem je (rx:RelV x v) (fx:jP x=true):∀ {xs:List V} {us:List Value},Vals xs us->xs.all jP=true->∀ u∈us,SeqAt.EqAt A s u v (uc x u)
 |_,_,.nil,_=>fun u hu=>by cases hu
 | y::xs,u::us,.cons r t,f=>fun u' hu=>by
   rw [List.all_cons,Bool.and_eq_true] at f
   rcases List.mem_cons.mp hu with rfl|hu
   ·rw [zu r f.1];exact Ey r rx f.1 fx
   ·exact je rx fx t f.2 u' hu
noncomputable def inV (x:V) (xs:List V):Bool:=xs.any fun y=>rP y x
noncomputable def M_ (K:PySem.W.Frag) (neg:Bool):R2:=fun x y H Q=>∃ p xs,y=.ref p/\(bF K H p xs∨bD K H p xs)/\jP x=true/\xs.all jP=true/\Q (.bl (if neg then !inV x xs else inV x xs)) H
theorem dX:iI X (compareOp .In) (M_ X.K false):=by
 intro aq s σ H x y v u Q I rx ry h
 obtain ⟨p,xs,rfl,hq,fx,fs,q⟩:=h
 cases ry
 rcases hq with hq|hq
 ·obtain ⟨its,r,pl,hz⟩:=I.list hq
  refine SeqAt.in_listAt (uc x) pl.isList (fun w hw=>je rx fx r fs w (by simpa using hw)) ⟨.bl _,H,I,rfl,?_⟩
  rw [show its.toArray.any (uc x)=its.any (uc x) by simp,kZ r fs]
  exact q
 ·obtain ⟨its,r,pl,hz⟩:=I.tuple hq
  refine SeqAt.in_tupleAt (uc x) pl (fun w hw=>je rx fx r fs w (by simpa using hw)) ⟨.bl _,H,I,rfl,?_⟩
  rw [show its.toArray.any (uc x)=its.any (uc x) by simp,kZ r fs]
  exact q
theorem gU:iI X (compareOp .NotIn) (M_ X.K true):=by
 intro aq s σ H x y v u Q I rx ry h
 obtain ⟨p,xs,rfl,hq,fx,fs,q⟩:=h
 cases ry
 rcases hq with hq|hq
 ·obtain ⟨its,r,pl,hz⟩:=I.list hq
  refine SeqAt.notIn_listAt (uc x) pl.isList (fun w hw=>je rx fx r fs w (by simpa using hw)) ⟨.bl _,H,I,rfl,?_⟩
  rw [show its.toArray.any (uc x)=its.any (uc x) by simp,kZ r fs]
  exact q
 ·obtain ⟨its,r,pl,hz⟩:=I.tuple hq
  refine SeqAt.notIn_tupleAt (uc x) pl (fun w hw=>je rx fx r fs w (by simpa using hw)) ⟨.bl _,H,I,rfl,?_⟩
  rw [show its.toArray.any (uc x)=its.any (uc x) by simp,kZ r fs]
  exact q
theorem aO:gD X (.builtin "len") (fun xs H Q=>∃ p ys,xs=[.ref p]/\(bF X.K H p ys∨bD X.K H p ys)/\Q (.int ys.length) H):=by
 intro aq s σ H xs us Q I r h
 obtain ⟨p,ys,rfl,hq,q⟩:=h
 obtain ⟨u,rfl,rx⟩:=vals1 r
 cases rx
 have hn:=km
 rcases hq with hq|hq
 ·obtain ⟨its,r',pl,hz⟩:=I.list hq
  have hlen:=r'.length
  exact Calls.call_len_list pl.isList (by simp only [List.size_toArray] <;> lia) ⟨.int ys.length,H,I.tok _,⟨s.toks+1,by rw [List.size_toArray,hlen]⟩,q⟩
 ·obtain ⟨its,r',pl,hz⟩:=I.tuple hq
  have hlen:=r'.length
  exact len_tuple pl (by simp only [List.size_toArray] <;> lia) ⟨.int ys.length,H,I.tok _,⟨s.toks+1,by rw [List.size_toArray,hlen]⟩,q⟩
theorem iR:gD X (.builtin "len") (fun xs H Q=>∃ z,xs=[.str z]/\z.length≤sizeLine/\Q (.int z.length) H):=by
 intro aq s σ H xs us Q I r h
 obtain ⟨z,rfl,hz,q⟩:=h
 obtain ⟨u,rfl,t,rfl⟩:=vals1 r
 have hn:=km
 exact len_str (by lia) ⟨.int z.length,H,I.tok _,⟨_,rfl⟩,q⟩
theorem iW:gD X (.type "list") (fun xs H Q=>∃ p ys,xs=[.ref p]/\(bF X.K H p ys∨bD X.K H p ys)/\∀ l,H l=none->Q (.ref l) (upd H l (.lst ys))):=by
 intro aq s σ H xs us Q I r h
 obtain ⟨p,ys,rfl,hq,q⟩:=h
 obtain ⟨u,rfl,rx⟩:=vals1 r
 cases rx
 have fin:∀ (its:List Value),Vals ys its->ys.length≤sizeLine->∀ (h':Heap) (c':Nat),(∀ b o',s.heap.get? b=some o'->h'.get? b=some o')->
  h'.get? s.heap.objs.size=some { cls:=.type "list",dict:=none,data:=.seq its.toArray c',slots:=#[] }->EP X aq σ Q (.ref s.heap.objs.size) { s with heap:=h' }:=fun its r' hz h' c' kp e=>
  ⟨.ref s.heap.objs.size,_,I.laid (t':=s.toks) kp (Nat.le_refl _) (show dm X.prog X.w _ h' _ (.lst ys) from ⟨hz,its,c',r',e⟩),rfl,q _ (I.hok.fresh (Nat.le_refl _))⟩
 rcases hq with hq|hq
 ·obtain ⟨its,r',pl,hz⟩:=I.list hq
  have hlen:=r'.length
  obtain ⟨o,ho,hc,n,hd⟩:=pl.isList
  exact call_list_seq p (.inl rfl) ho hc hd (fun h' c' kp e=>fin its r' hz h' c' kp e) (by simp only [List.size_toArray] <;> lia)
 ·obtain ⟨its,r',pl,hz⟩:=I.tuple hq
  have hlen:=r'.length
  obtain ⟨o,ho,hc,n,hd⟩:=pl
  exact call_list_seq p (.inr rfl) ho hc hd (fun h' c' kp e=>fin its r' hz h' c' kp e) (by simp only [List.size_toArray] <;> lia)
theorem iw:gD X (.type "tuple") (fun xs H Q=>∃ p ys,xs=[.ref p]/\((bF X.K H p ys/\∀ l,H l=none->Q (.ref l) (upd H l (.tup ys)))∨(bD X.K H p ys/\Q (.ref p) H))):=by
 intro aq s σ H xs us Q I r h
 obtain ⟨p,ys,rfl,h⟩:=h
 obtain ⟨u,rfl,rx⟩:=vals1 r
 cases rx
 rcases h with ⟨hq,q⟩|⟨hq,q⟩
 ·obtain ⟨its,r',pl,hz⟩:=I.list hq
  have hlen:=r'.length
  refine call_tuple_list pl.isList (fun h' kp=>?_) (by simp only [List.size_toArray] <;> lia)
  have I1:Inv X aq σ H { s with heap:=h' }:=I.kept (t':=s.toks) kp
  have I2:Inv X aq σ (upd H h'.objs.size (.tup ys)) { s with heap:=h'.push { cls:=.type "tuple",data:=.seq its.toArray } }:=
   I1.laid (t':=s.toks) (fun b o e=>Heap.get?_push_of_some _ e) (Nat.le_refl _) (show dm X.prog X.w _ _ _ (.tup ys) from ⟨hz,its,r',IsTup.new _ _⟩)
  exact ⟨.ref h'.objs.size,_,I2,rfl,q _ (I1.hok.fresh (Nat.le_refl _))⟩
 ·obtain ⟨its,r',pl,hz⟩:=I.tuple hq
  exact call_tuple_same pl ⟨.ref p,H,I,rfl,q⟩
noncomputable def Ny (K:PySem.W.Frag) (T:String) (x:V) (H:Hp):Prop:=match x with
 |.str _=>T = "str"
 |.int _=>T = "int"
 |.ref p=>(T = "list"/\∃ xs,bF K H p xs)∨(T = "tuple"/\∃ o,K.lookup p=some o/\o.cls=.type "tuple"/\o.dict=none)∨
  (T = "dict"/\((∃ kvs,H p=some (.dK kvs))∨∃ kvs,H p=some (.dT kvs)))∨(T = "set"/\∃ S n,H p=some (.set S n))
 |_=>False
theorem yQ (I:Inv X aq σ H s) (r:RelV x v) (ty:Ny X.K T x H) :
 s.TypeIs v T/\∀ a,v=.ref a->∃ ob,s.heap.get? a=some ob/\ob.dict=none:=by
 cases x with
 | str z=>
   obtain ⟨t,rfl⟩:=r
   cases (show T = "str" from ty)
   exact ⟨typeIs_str s z t,fun _ e=>nomatch e⟩
 | int i=>
   obtain ⟨t,rfl⟩:=r
   cases (show T = "int" from ty)
   exact ⟨typeIs_int s i t,fun _ e=>nomatch e⟩
 | ref p=>
   cases r
   rcases ty with ⟨rfl,xs,hq⟩|⟨rfl,o,hk,hc,hd⟩|⟨rfl,hk⟩|⟨rfl,S,n,hk⟩
   ·obtain ⟨its,_,pl,_⟩:=I.list hq
    refine ⟨pl.isList.typeIs,fun a e=>?_⟩
    cases e
    obtain ⟨o,n,e,c,hd,_⟩:=pl
    exact ⟨o,e,hd⟩
   ·refine ⟨⟨o,I.kIn p o hk,hc⟩,fun a e=>?_⟩
    cases e
    exact ⟨o,I.kIn _ o hk,hd⟩
   ·have z:∃ o,s.heap.get? p=some o/\o.ExactDict:=by
     rcases hk with ⟨kvs,hk⟩|⟨kvs,hk⟩
     ·obtain ⟨_,_,_,_,o,_,_,e,ex,_⟩:=I.hok p _ hk
      exact ⟨o,e,ex⟩
     ·obtain ⟨_,_,_,_,o,_,_,e,ex,_⟩:=I.hok p _ hk
      exact ⟨o,e,ex⟩
    obtain ⟨o,e,ex⟩:=z
    refine ⟨⟨o,e,ex.1⟩,fun a e2=>?_⟩
    cases e2
    exact ⟨o,e,ex.2.1⟩
   ·obtain ⟨o,_,_,_,e,ex,_⟩:=I.hok p _ hk
    refine ⟨⟨o,e,ex.1⟩,fun a e2=>?_⟩
    cases e2
    exact ⟨o,e,ex.2.1⟩
 |_=>exact False.elim ty
noncomputable def NT (K:PySem.W.Frag) (T:String) (r:V->List V->Hp->VK->Prop) (to:TE):TE:=fun σ H Q=>to σ H fun x H1=>Ny K T x H1/\r x [] H1 Q
noncomputable def PQ (K:PySem.W.Frag) (T:String) (r:V->List V->Hp->VK->Prop) (to:TE) (t:TA):TE:=fun σ H Q=>to σ H fun x H1=>Ny K T x H1/\t σ H1 fun xs H2=>r x xs H2 Q
theorem ud {X:Cx} {o:Expr} {to:TE} {name:Str} {apos cpos:Pos} {T id:String} {r:V->List V->Hp->VK->Prop} (pa:PlainAttrs T) (slot:Slot T name id) (hty:typeOf (.builtin id)=pure (.type "method_descriptor")) (hm:FN X id r) (ho:PE X o to)
 (hbase:attributeBase o name X.env (eval o X.env)=eval o X.env:=by rfl) (hline:(apos.endLine == cpos.line)=true:=by rfl):PE X (.Call (.Attribute o name apos) [] [] cpos) (NT X.K T r to):=by
 intro aq s σ H Q I h
 refine wpAny_Call_method0_late hbase hline (cI (ho aq s σ H _ I h) fun v s1 ⟨x,H1,I1,r1,ty,q1⟩=>?_)
 obtain ⟨h1,h2⟩:=yQ I1 r1 ty
 exact ⟨T,id,pa,slot,hty,h1,h2,Calls.callWith_builtin rfl (PySem.evalArgs_none (hm aq s1 σ H1 x [] v [] Q I1 r1 .nil q1))⟩
theorem h_ {X:Cx} {o e:Expr} {es:List Expr} {to:TE} {t:TA} {name:Str} {apos cpos:Pos} {T id:String} {r:V->List V->Hp->VK->Prop} (pa:PlainAttrs T) (slot:Slot T name id) (hty:typeOf (.builtin id)=pure (.type "method_descriptor")) (hm:FN X id r) (ho:PE X o to) (ha:PA X (e::es) t)
 (hbase:attributeBase o name X.env (eval o X.env)=eval o X.env:=by rfl)
 (hfew:((backTo cpos (starEach (e::es) X.env)).all (fun x=>!x.1) && (backToKw cpos (keywordEach [] X.env)).all (fun x=>x.1.isSome)
  && decide ((e::es).length+([]:List Keyword).length+(if ([]:List Keyword).isEmpty then 0 else 1)<30))=true:=by rfl)
 (hline:(apos.endLine == cpos.line)=true:=by rfl) (hs:starEach (e::es) X.env=(false,eval e X.env)::starEach es X.env:=by rfl) (hplain:(backTo cpos (starEach es X.env)).any (·.1)=false:=by rfl) :
 PE X (.Call (.Attribute o name apos) (e::es) [] cpos) (PQ X.K T r to t):=by
 intro aq s σ H Q I h
 refine wpAny_Call_method_late hbase hfew hline rfl (cI (ho aq s σ H _ I h) fun v s1 ⟨x,H1,I1,r1,ty,q1⟩=>?_)
 obtain ⟨h1,h2⟩:=yQ I1 r1 ty
 refine ⟨T,id,pa,slot,hty,h1,h2,?_⟩
 have hA:=ha cpos aq s1 σ H1 _ I1 q1
 rw [hs] at hA ⊢
 refine Calls.callWith_builtin (by show (false || (backTo cpos (starEach es X.env)).any (·.1))=false;rw [hplain] <;> rfl) (Calls.evalArgs_plain ?_)
 exact cI hA fun us s2 ⟨vs,H2,I2,r2,q2⟩=>hm aq s2 σ H2 x vs v us Q I2 r1 r2 q2
noncomputable def HX (X:Cx) (id:String) (r:V->List V->Hp->VK->Prop):Prop:=
 ∀ (aq:List (Addr×Obj)) (s:Shared) (σ:St) (H:Hp) (x:V) (xs:List V) (v:Value) (us:List Value) (Q:VK),Inv X aq σ H s->RelV x v->Vals xs us->r x xs H Q->
   wpAny (model X.prog X.w) X.A (call (.builtin id) (v::us)) (EP X aq σ Q) X.xe s
theorem Vals.one:∀ {x:V} {us:List Value},Vals [x] us->∃ u,us=[u]/\RelV x u
 |_,_,.cons r .nil=>⟨_,rfl,r⟩
theorem Vals.eraseIdx:∀ {xs:List V} {us:List Value} (i:Nat),Vals xs us->Vals (xs.eraseIdx i) (us.eraseIdx i)
 |_,_,_,.nil=>.nil
 |_,_,0,.cons _ t=>t
 |_,_,i+1,.cons r t=>.cons r (Vals.eraseIdx i t)
theorem pQ {α:Type}:∀ (l:List α) (i:Nat),(l.eraseIdx i).length≤l.length
 |[],_=>Nat.le_refl _
 |_::_,0=>Nat.le_succ _
 |_::r,i+1=>Nat.succ_le_succ (pQ r i)
section
variable {X:Cx} {aq:List (Addr×Obj)} {σ:St} {H:Hp} {s:Shared} {l b:Addr} {xs ys zs:List V}
theorem Inv.lset {its its':List Value} {f:Array Value->Array Value} (I:Inv X aq σ H s) (hH:H l=some (.lst xs))
 (e:s.heap.get? l=some { cls:=.type "list",data:=.seq its.toArray n }) (hf:f its.toArray=its'.toArray) (hv:Vals ys its') (hz:ys.length≤sizeLine) :
 Inv X aq σ (upd H l (.lst ys)) { s with heap:=s.heap.update l (Obj.mapSeq f),toks:=t' }:=by
 have q:=PySem.IsL.update e f
 rw [hf] at q
 refine I.write (x:=l) (e:=l) (by rw [hH];exact trivial) (.inl rfl) (fun b' u hb hu=>(Heap.get?_update_other s.heap (Obj.mapSeq f) (Ne.symm hb)).trans hu) ⟨_,q⟩ ?_
 exact ⟨hz,its',_,hv,q⟩
theorem Inv.lnew (I:Inv X aq σ H s) (hv:Vals ys its) (hz:ys.length≤sizeLine) :
 Inv X aq σ (upd H s.heap.objs.size (.lst ys)) { s with heap:=s.heap.push { cls:=.type "list",data:=.seq its.toArray },toks:=t' }:=
 I.laid (fun _ _ q=>Heap.get?_push_of_some _ q) (Nat.le_refl _) ⟨hz,its,0,hv,Heap.get?_push_size _ rfl⟩
theorem Inv.fresh (I:Inv X aq σ H s):H s.heap.objs.size=none:=I.hok.fresh (Nat.le_refl _)
theorem Inv.lstM (I:Inv X aq σ H s) (hH:H l=some (.lst xs)):xs.length≤sizeLine/\∃ (its:List Value) (n:Nat),Vals xs its/\xs.length=its.length/\s.heap.get? l=some { cls:=.type "list",data:=.seq its.toArray n }:=by
 obtain ⟨z,its,n,r,e⟩:=I.hok l _ hH
 exact ⟨z,its,n,r,r.length,e⟩
theorem ou (h:n≤sizeLine):Builtin.List.listTooLong n=false:=by
 unfold Builtin.List.listTooLong
 exact decide_eq_false (by lia)
end
section
variable {X:Cx}
noncomputable def Br:V->List V->Hp->VK->Prop:=fun x vs H Q=>∃ l xs y,x=.ref l/\vs=[y]/\H l=some (.lst xs)/\xs.length<sizeLine/\Q .non (upd H l (.lst (xs++[y])))
theorem eZ:HX X "list.append" Br:=by
 intro aq s σ H x vs v us Q I rx rv h
 obtain ⟨l,xs,y,rfl,rfl,hH,hz,q⟩:=h
 cases rx
 obtain ⟨u,rfl,ru⟩:=rv.one
 obtain ⟨z,its,n,r,hl,e⟩:=I.lstM hH
 refine call_meets F.slot_list_append ⟨_,e,rfl⟩ F.entry_list_append (F.args_list_append_2 _ _) (PySem.list_append l its.toArray n u (by rw [List.size_toArray];lia)) ⟨e,?_⟩
 refine ⟨.non,_,I.lset (its':=its++[u]) hH e (by simp) (r.append (.cons ru .nil)) ?_,rfl,q⟩
 rw [List.length_append,List.length_singleton]
 lia
noncomputable def Bs:V->List V->Hp->VK->Prop:=fun x vs H Q=>∃ l b xs zs,x=.ref l/\vs=[.ref b]/\H l=some (.lst xs)/\H b=some (.lst zs)/\xs.length+zs.length≤sizeLine/\Q .non (upd H l (.lst (xs++zs)))
theorem vQ:HX X "list.extend" Bs:=by
 intro aq s σ H x vs v us Q I rx rv h
 obtain ⟨l,b,xs,zs,rfl,rfl,hH,hB,hz,q⟩:=h
 cases rx
 obtain ⟨u,rfl,ru⟩:=rv.one
 cases ru
 obtain ⟨z,its,n,r,hl,e⟩:=I.lstM hH
 obtain ⟨z2,its2,n2,r2,hl2,e2⟩:=I.lstM hB
 have hsz:its.toArray.size+its2.toArray.size≤sizeLine:=by rw [List.size_toArray,List.size_toArray];lia
 have hlong:¬ (!its.toArray.isEmpty && Builtin.List.listTooLong (its.toArray.size+its2.toArray.size))=true:=by
  rw [ou hsz,Bool.and_false]
  exact Bool.false_ne_true
 refine call_meets F.slot_list_extend ⟨_,e,rfl⟩ F.entry_list_extend (F.args_list_extend_2 _ _)
  (AutoSeq1.list_extend_list_list_0 l its.toArray n b its2.toArray n2 hlong (by rw [List.size_toArray];lia) (by lia)) ⟨e,e2,?_⟩
 refine ⟨.non,_,I.lset (its':=its++its2) hH e (by simp) (r.append r2) ?_,rfl,q⟩
 rw [List.length_append]
 lia
noncomputable def Fi:V->List V->Hp->VK->Prop:=fun x vs H Q=>∃ l xs i k y,x=.ref l/\vs=[.int i]/\H l=some (.lst xs)/\-(2 ^ 63)≤i/\i<2 ^ 63/\seqIndex? i xs.length=some k/\xs[k]?=some y/\Q y (upd H l (.lst (xs.eraseIdx k)))
theorem zU:HX X "list.pop" Fi:=by
 intro aq s σ H x vs v us Q I rx rv h
 obtain ⟨l,xs,i,k,y,rfl,rfl,hH,h1,h2,hk,hy,q⟩:=h
 cases rx
 obtain ⟨u,rfl,ru⟩:=rv.one
 obtain ⟨t,rfl⟩:=ru
 obtain ⟨z,its,n,r,hl,e⟩:=I.lstM hH
 obtain ⟨w,hw,rw'⟩:=r.get hy
 refine call_meets F.slot_list_pop ⟨_,e,rfl⟩ F.entry_list_pop (F.args_list_pop_2 _ _)
  (MeetsSeq.list_pop_at l its.toArray n i t k w (fitsIndex_both h1 h2) (by rw [List.size_toArray,← hl];exact hk) (by rw [← Array.getElem?_toList];exact hw) (by rw [List.size_toArray];lia)) ⟨e,?_⟩
 refine ⟨y,_,I.lset (its':=its.eraseIdx k) hH e ?_ (r.eraseIdx k) ?_,rw',q⟩
 ·show its.toArray.eraseIdxIfInBounds k=(its.eraseIdx k).toArray
  rw [List.eraseIdxIfInBounds_toArray]
 ·have:=pQ xs k
  lia
noncomputable def Nk:R2:=fun x y H Q=>∃ l b xs zs,x=.ref l/\y=.ref b/\H l=some (.lst xs)/\H b=some (.lst zs)/\xs.length+zs.length≤sizeLine/\∀ p,H p=none->Q (.ref p) (upd H p (.lst (xs++zs)))
theorem xZ:iI X (binaryOp .Add) Nk:=by
 intro aq s σ H x y v u Q I rx ry h
 obtain ⟨l,b,xs,zs,rfl,rfl,hH,hB,hz,q⟩:=h
 cases rx
 cases ry
 obtain ⟨z,its,n,r,hl,e⟩:=I.lstM hH
 obtain ⟨z2,its2,n2,r2,hl2,e2⟩:=I.lstM hB
 refine PySem.P.add_list e e2 ?_ (by rw [List.size_toArray,List.size_toArray];lia)
 have ea:its.toArray++its2.toArray=(its++its2).toArray:=by simp
 rw [ea]
 exact ⟨.ref _,_,I.lnew (t':=s.toks) (r.append r2) (by rw [List.length_append];lia),rfl,q _ I.fresh⟩
end
section
variable {κ:Type} [DecidableEq κ]
noncomputable def fX (kvs:List (κ×V)) (k:κ):Option V:=(kvs.find? fun kv=>decide (kv.1=k)).map (·.2)
noncomputable def putK (kvs:List (κ×V)) (k:κ) (v:V):List (κ×V):=
 if (kvs.any fun kv=>decide (kv.1=k))=true then kvs.map (fun kv=>if kv.1=k then (kv.1,v) else kv) else kvs++[(k,v)]
theorem zb:fX ([]:List (κ×V)) k=none:=rfl
theorem dO {p:κ×V} {r:List (κ×V)} {k:κ} (e:p.1=k):fX (p::r) k=some p.2:=by simp [fX,List.find?_cons,e]
theorem dN {p:κ×V} {r:List (κ×V)} {k:κ} (e:¬ p.1=k):fX (p::r) k=fX r k:=by simp [fX,List.find?_cons,e]
theorem lE (k:κ):∀ kvs:List (κ×V),(kvs.any fun kv=>decide (kv.1=k))=(fX kvs k).isSome
 |[]=>rfl
 | p::r=>by
   rw [List.any_cons]
   by_cases e:p.1=k
   ·simp only [dO e,decide_eq_true e,Bool.true_or,Option.isSome_some]
   ·rw [dN e,decide_eq_false e,Bool.false_or];exact lE k r
theorem rH (k j:κ) (y:V):∀ kvs:List (κ×V),fX (kvs.map fun kv=>if kv.1=k then (kv.1,y) else kv) j=(fX kvs j).map fun x=>if j=k then y else x
 |[]=>rfl
 | p::r=>by
   have ih:=rH k j y r
   rw [List.map_cons]
   by_cases h:p.1=k
   ·rw [if_pos h]
    by_cases e:p.1=j
    ·rw [dO (p:=(p.1,y)) e,dO e,Option.map_some,if_pos (e.symm.trans h)]
    ·rw [dN (p:=(p.1,y)) e,dN e,ih]
   ·rw [if_neg h]
    by_cases e:p.1=j
    ·rw [dO (p:=p) e,dO e,Option.map_some,if_neg (fun z=>h (e.trans z))]
    ·rw [dN (p:=p) e,dN e,ih]
theorem p6 (k j:κ) (y:V):∀ kvs:List (κ×V),fX kvs k=none->fX (kvs++[(k,y)]) j=if j=k then some y else fX kvs j
 | [],_=>by
   by_cases e:k=j
   ·rw [if_pos e.symm];exact dO (p:=(k,y)) e
   ·rw [if_neg (fun z=>e z.symm)];exact dN (p:=(k,y)) e
 | p::r,hn=>by
   rw [List.cons_append]
   have hk:¬ p.1=k:=fun z=>by rw [dO z] at hn;cases hn
   rw [dN hk] at hn
   have ih:=p6 k j y r hn
   by_cases e:p.1=j
   ·rw [dO e,dO e,if_neg (fun z=>hk (e.trans z))]
   ·rw [dN e,dN e,ih]
theorem lL (kvs:List (κ×V)) (k j:κ) (y:V):fX (putK kvs k y) j=if j=k then some y else fX kvs j:=by
 unfold putK
 by_cases a:(kvs.any fun kv=>decide (kv.1=k))=true
 ·rw [if_pos a,rH]
  rw [lE] at a
  by_cases e:j=k
  ·obtain ⟨x,hx⟩:=Option.isSome_iff_exists.mp a
   rw [if_pos e,e,hx,Option.map_some,if_pos rfl]
  ·rw [if_neg e]
   cases fX kvs j with
   |none=>rfl
   |some x=>rw [Option.map_some,if_neg e]
 ·rw [if_neg a]
  refine p6 k j y kvs ?_
  rw [lE] at a
  cases q:fX kvs k with
  |none=>rfl
  |some x=>rw [q] at a;exact (a rfl).elim
theorem gr (kvs:List (κ×V)) (k:κ) (v:V):(putK kvs k v).length≤kvs.length+1:=by
 unfold putK
 split
 ·rw [List.length_map];lia
 ·rw [List.length_append,List.length_cons,List.length_nil];lia
theorem jH.isSome_eq (r:jH o u):o.isSome=u.isSome:=by
 cases o with
 | none=>cases u with
   |none=>rfl
   |some _=>exact (show False from r).elim
 | some _=>cases u with
   |none=>exact (show False from r).elim
   |some _=>rfl
theorem KV.val {kvs:List (κ×V)} {vs:List (κ×Value)} (r:KV kvs vs) (k:κ):jH (fX kvs k) (valueAt vs k):=by
 unfold KV at r
 induction r with
 |nil=>exact True.intro
 | @cons p q ps qs h t ih=>
   obtain ⟨h1,h2⟩:=h
   by_cases e:p.1=k
   ·have e':q.1=k:=h1.symm.trans e
    have b:valueAt (q::qs) k=some q.2:=by simp [valueAt,List.find?_cons,e']
    rw [dO e,b];exact h2
   ·have e':¬ q.1=k:=fun z=>e (h1.trans z)
    have b:valueAt (q::qs) k=valueAt qs k:=by simp [valueAt,List.find?_cons,e']
    rw [dN e,b];exact ih
theorem KV.any (r:KV kvs vs) (k:κ):(kvs.any fun kv=>decide (kv.1=k))=vs.any fun kv=>decide (kv.1=k):=by
 unfold KV at r
 induction r with
 |nil=>rfl
 |cons h t ih=>rw [List.any_cons,List.any_cons,ih,h.1]
theorem KV.repl (r:KV kvs vs) (k:κ) (ry:RelV y u) :
 KV (kvs.map fun kv=>if kv.1=k then (kv.1,y) else kv) (vs.map fun kv=>if kv.1=k then (kv.1,u) else kv):=by
 unfold KV at r ⊢
 induction r with
 |nil=>exact .nil
 | @cons p q ps qs h t ih=>
   rw [List.map_cons,List.map_cons]
   refine .cons ?_ ih
   obtain ⟨h1,h2⟩:=h
   by_cases e:p.1=k
   ·rw [if_pos e,if_pos (h1.symm.trans e)];exact ⟨h1,ry⟩
   ·rw [if_neg e,if_neg (fun z=>e (h1.trans z))];exact ⟨h1,h2⟩
theorem KV.put (r:KV kvs vs) (k:κ) (ry:RelV y u):KV (putK kvs k y) (stored vs k u):=by
 unfold putK stored
 rw [r.any k]
 by_cases e:(vs.any fun kv=>decide (kv.1=k))=true
 ·rw [if_pos e,if_pos e];exact r.repl k ry
 ·rw [if_neg e,if_neg e];exact Paired.snoc r ⟨rfl,ry⟩
theorem KV.length {kvs:List (κ×V)} {vs:List (κ×Value)} (r:KV kvs vs):kvs.length=vs.length:=Paired.length r
end
theorem uK (r:RelV (kV k) u):(du P w).is k u=true:=by
 cases k with
 |inl i=>obtain ⟨t,e⟩:=(show ∃ t,u=Value.int i t from r);subst e;exact rT P w i t
 |inr x=>obtain ⟨t,e⟩:=(show ∃ t,u=Value.str x t from r);subst e;exact rn P w x t
theorem pD:∀ {ks:List Key} {us:List Value},Vals (ks.map kV) us->ItemsAre (du P w) ks us
 |[],_,r=>by rw [List.map_nil] at r;cases r;exact .nil
 | k::ks,_,r=>by
   rw [List.map_cons] at r
   cases r with
   |cons h t=>exact .cons (uK h) (pD t)
noncomputable abbrev KT (H:Hp):List (List Key×V)->List (List Key×Addr×Value)->Prop:=Paired fun p q=>p.1=q.1/\H q.2.1=some (.tup (p.1.map kV))/\RelV p.2 q.2.2
theorem KT.val {H:Hp} {kvs:List (List Key×V)} {xs:List (List Key×Addr×Value)} (r:KT H kvs xs) (k:List Key):jH (fX kvs k) ((atKey xs k).map (·.2)):=by
 induction r with
 |nil=>exact True.intro
 | @cons p q ps qs h t ih=>
   obtain ⟨h1,_,h2⟩:=h
   by_cases e:p.1=k
   ·have e':q.1=k:=h1.symm.trans e
    have b:atKey (q::qs) k=some q.2:=by simp [atKey,List.find?_cons,e']
    rw [dO e,b];exact h2
   ·have e':¬ q.1=k:=fun z=>e (h1.trans z)
    have b:atKey (q::qs) k=atKey qs k:=by simp [atKey,List.find?_cons,e']
    rw [dN e,b];exact ih
theorem KT.repl (r:KT H kvs xs) (k:List Key) (ry:RelV y u) :
 KT H (kvs.map fun kv=>if kv.1=k then (kv.1,y) else kv) (xs.map (putAt k u)):=by
 induction r with
 |nil=>exact .nil
 | @cons p q ps qs h t ih=>
   rw [List.map_cons,List.map_cons]
   refine .cons ?_ ih
   obtain ⟨h1,h2,h3⟩:=h
   unfold putAt
   by_cases e:p.1=k
   ·rw [if_pos e,if_pos (h1.symm.trans e)];exact ⟨h1,h2,ry⟩
   ·rw [if_neg e,if_neg (fun z=>e (h1.trans z))];exact ⟨h1,h2,h3⟩
theorem KT.put (r:KT H kvs xs) (k:List Key) (hb:H b=some (.tup (k.map kV))) (ry:RelV y u) :
 KT H (putK kvs k y) (storedH xs k b u):=by
 have e:(kvs.any fun kv=>decide (kv.1=k))=(atKey xs k).isSome:=by
  rw [lE,(r.val k).isSome_eq,Option.isSome_map]
 unfold putK storedH
 rw [e]
 by_cases q:(atKey xs k).isSome=true
 ·rw [if_pos q,if_pos q];exact r.repl k ry
 ·rw [if_neg q,if_neg q];exact Paired.snoc r ⟨rfl,hb,ry⟩
theorem KT.keeps {H H':Hp} (r:KT H kvs xs) (ht:∀ b ys,H b=some (.tup ys)->H' b=some (.tup ys)):KT H' kvs xs:=
 Paired.mapP r fun _ _ z=>⟨z.1,ht _ _ z.2.1,z.2.2⟩
theorem Dk (ok:jW P w H h) (e:Rd H a u):dm P w H h a u:=e.ok ok
theorem yh (ok:jW P w H h) (e:Rd H a (.dK kvs)):kvs.length≤sizeLine/\(a == sysModules)=false/\∃ vs,KV kvs vs/\h.DictOf (du P w) a vs:=
 show dm P w H h a (.dK kvs) from Dk ok e
theorem Dg (ok:jW P w H h) (e:H a=some (.dK kvs)):kvs.length≤sizeLine/\(a == sysModules)=false/\∃ vs,KV kvs vs/\h.DictOf (du P w) a vs:=yh ok (.inl e)
theorem tL (ok:jW P w H h) (e:H a=some (.tup (ks.map kV))):(tupleKind (du P w)).is h ks a:=by
 obtain ⟨_,its,r,o,h1,h2,n,h3⟩:=(show dm P w H h a (.tup (ks.map kV)) from ok a _ e)
 exact ⟨o,its.toArray,n,h1,h2,h3,by simpa using pD r⟩
theorem Aa (ok:jW P w H h) (e:Rd H a (.dT kvs)):kvs.length≤sizeLine/\(a == sysModules)=false/\
 ∃ xs,KT H kvs xs/\h.DictOfH (tupleKind (du P w)) a xs:=by
 obtain ⟨z,y,xs,r,o,es,ep,h1,h2,h3,h4,h5⟩:=(show dm P w H h a (.dT kvs) from Dk ok e)
 refine ⟨z,y,xs,r,o,es,ep,h1,h2,h3,h4,fun x hx=>?_,h5⟩
 have all:∀ {l:List (List Key×V)} {m:List (List Key×Addr×Value)},KT H l m->∀ x∈m,(tupleKind (du P w)).is h x.1 x.2.1:=by
  intro l m q
  induction q with
  |nil=>intro x hx;exact nomatch hx
  | @cons p q ps qs hq t ih=>
    intro x hx
    rcases List.mem_cons.mp hx with e|hx
    ·subst e
     exact tL ok (by rw [← hq.1];exact hq.2.1)
    ·exact ih x hx
 exact all r x hx
theorem Jo (ok:jW P w H h) (e:H a=some (.dT kvs)):kvs.length≤sizeLine/\(a == sysModules)=false/\
 ∃ xs,KT H kvs xs/\h.DictOfH (tupleKind (du P w)) a xs:=Aa ok (.inl e)
noncomputable def jF (H:Hp) (a:Addr) (y:V) (r:Option V):Prop:=
 (∃ kvs k,Rd H a (.dK kvs)/\y=kV k/\r=fX kvs k)∨∃ kvs k b,Rd H a (.dT kvs)/\y=.ref b/\H b=some (.tup (k.map kV))/\r=fX kvs k
noncomputable def nG (H:Hp) (a:Addr) (y v:V) (H':Hp):Prop:=
 (∃ kvs k,H a=some (.dK kvs)/\y=kV k/\kvs.length<sizeLine/\H'=upd H a (.dK (putK kvs k v)))∨
 ∃ kvs k b,H a=some (.dT kvs)/\y=.ref b/\H b=some (.tup (k.map kV))/\kvs.length<sizeLine/\H'=upd H a (.dT (putK kvs k v))
theorem jF.k {H:Hp} {a:Addr} {kvs:List (Key×V)} {k:Key} (e:H a=some (.dK kvs)):jF H a (kV k) (fX kvs k):=.inl ⟨kvs,k,.inl e,rfl,rfl⟩
theorem nG.k {H:Hp} {a:Addr} {kvs:List (Key×V)} {k:Key} {v:V} (e:H a=some (.dK kvs)) (hl:kvs.length<sizeLine):nG H a (kV k) v (upd H a (.dK (putK kvs k v))):=.inl ⟨kvs,k,e,rfl,hl,rfl⟩
section
variable {X:Cx} {aq:List (Addr×Obj)} {σ:St} {H:Hp} {s:Shared} {a:Addr} {y v:V} {u r:Value} {o:Option V} {A:Around} {E:Value->Shared->Prop}
theorem Inv.big (I:Inv X aq σ H s):sysModules<s.heap.objs.size:=by
 have h:mainGlobals<s.heap.objs.size:=(I.mod.glob.keeps I.bk).lt
 exact Nat.lt_trans (by decide) h
theorem xu (hu:A.units+1<cLine) (I:Inv X aq σ H s) (g:jF H a y (some v)) (ry:RelV y u) (h:∀ w' s',Inv X aq σ H s'->RelV v w'->Q w' s') :
 wpAny (model X.prog X.w) A (getItem (.ref a) u) Q E s:=by
 rcases g with ⟨kvs,k,e,ey,l⟩|⟨kvs,k,b,e,ey,eb,l⟩
 ·subst ey
  obtain ⟨z,hd,vs,rel,dd⟩:=yh I.hok e
  obtain ⟨w',hw,rw'⟩:=jH.some_of (v:=v) (o:=valueAt vs k) (by rw [l];exact rel.val k)
  exact wpAny_getItem_of (uK ry) dd.mapOf hw (h w' _ (I.tok _) rw')
 ·subst ey
  cases (show u=Value.ref b from ry)
  obtain ⟨z,hd,xs,rel,dd⟩:=Aa I.hok e
  obtain ⟨w',hw,rw'⟩:=jH.some_of (v:=v) (o:=(atKey xs k).map (·.2)) (by rw [l];exact rel.val k)
  obtain ⟨p,hp,hp2⟩:=Option.map_eq_some_iff.mp hw
  refine wpAny_getItem_heap (tupleKind_room_in1 hu) (tL I.hok eb) dd hp ?_
  rw [hp2]
  exact h w' _ (I.tok _) rw'
theorem qR (I:Inv X aq σ H s) (mu:Kq (H a)) (hs:Heap.SameBut a s.heap h') (he:∃ q,h'.get? a=some q) (new:dm X.prog X.w (upd H a ob) h' a ob) :
 Inv X aq σ (upd H a ob) { s with heap:=h',toks:=t' }:=
 I.write (x:=a) (e:=a) mu (.inl rfl) (fun b q hb z=>(hs.2 b hb).trans z) he new
theorem z9 (z:kvs.length≤sizeLine) (hd:(a == sysModules)=false) (rel:KV kvs vs) (dd:h'.DictOf (du P w) a vs) :
 dm P w H' h' a (.dK kvs):=⟨z,hd,vs,rel,dd⟩
theorem vZ {Q:Unit->Shared->Prop} (hu:A.units+1<cLine) (I:Inv X aq σ H s) (g:nG H a y v H') (ry:RelV y u) (rv:RelV v r) (h:∀ s',Inv X aq σ H' s'->Q () s') :
 wpAny (model X.prog X.w) A (setItem (.ref a) u r) Q E s:=by
 rcases g with ⟨kvs,k,e,ey,l,eH⟩|⟨kvs,k,b,e,ey,eb,l,eH⟩
 ·subst ey eH
  obtain ⟨z,hd,vs,rel,dd⟩:=Dg I.hok e
  have hz:vs.length≤sizeLine:=by rw [← rel.length];exact z
  have hl:(putK kvs k v).length≤sizeLine:=by have:=gr kvs k v;lia
  refine wpAny_setItem_pairs (hsz:=hz) (uK ry) dd fun h' dd' hs=>h _ ?_
  have he:∃ q,h'.get? a=some q:=let ⟨q,_,_,hq,_⟩:=dd';⟨q,hq⟩
  exact qR I (by rw [e];exact True.intro) hs he (z9 hl hd (rel.put k rv) dd')
 ·subst ey eH
  cases (show u=Value.ref b from ry)
  obtain ⟨z,hd,xs,rel,dd⟩:=Jo I.hok e
  have hz:xs.length≤sizeLine:=by rw [← Paired.length rel];exact z
  have hl:(putK kvs k v).length≤sizeLine:=by have:=gr kvs k v;lia
  refine wpAny_setItem_heap (hsz:=hz) (tupleKind_room_in1 hu) (tL I.hok eb) dd fun h' dd' hs=>h _ ?_
  obtain ⟨q,es,ep,hq,h2,h3,h4,_,h5⟩:=dd'
  refine qR I (by rw [e];exact True.intro) hs ⟨q,hq⟩ ⟨hl,hd,_,(rel.put k eb rv).keeps fun c ys ec=>?_,q,es,ep,hq,h2,h3,h4,h5⟩
  rw [aX (gw ec e (fun z=>nomatch z))]
  exact ec
end
noncomputable def Iw (i:Expr):Prop:=∀ ov iv,subscripted i false ov iv=operate [ov,iv] (getItem ov iv)
theorem Cw {prog:Program} {w:World} {A:Around} {E:Value->Shared->Prop} {s:Shared} {env:Env} {value slice:Expr} {pos:Pos} {T id:String} {Q:Value->Shared->Prop}
 (hl:typeLookup (.type T) "__getitem__" = pure (some (.builtin id))) (hs:Iw slice)
 (h:wpAny (model prog w) A (eval value env) (fun o s₁=>wpAny (model prog w) A (eval slice env) (fun i s₂=>s₂.TypeIs o T/\wpAny (model prog w) A (getItem o i) Q E s₂) E s₁) E s) :
 wpAny (model prog w) A (eval (.Subscript value slice pos) env) Q E s:=by
 refine Subscript_ (wpAny_mono h (fun o s₁ h₁=>wpAny_mono h₁ (fun i s₂ h₂=>?_) fun _ _ x=>x) fun _ _ x=>x)
 obtain ⟨hT,h₂⟩:=h₂
 unfold subscriptTail
 refine wpAny_bind ?_
 rw [getitemInPython_of_ne hT.not_modules]
 refine wpAny_bind (wpAny_specialOf hT hl ?_)
 have fin:wpAny (model prog w) A (subscripted slice false o i) (fun r s₃=>wpAny (model prog w) A (letTemporaryGo value o r >>= fun _=>pure r) Q E s₃) E s₂:=by
  rw [hs o i]
  exact wpAny_operating (wpAny_mono h₂ (fun r s₃ h₃=>wpAny_bind (wpAny_letTemporaryGo (wpAny_pure h₃))) fun _ _ x=>x)
 first
  |exact wpAny_pure (wpAny_bind fin)
  |exact wpAny_bind (wpAny_pure (wpAny_bind fin))
  |exact wpAny_bind fin
theorem rN (I:Inv X aq σ H s) (g:jF H a y o):s.TypeIs (.ref a) "dict":=by
 rcases g with ⟨kvs,k,e,_,_⟩|⟨kvs,k,b,e,_,_,_⟩
 ·obtain ⟨_,_,vs,_,dd⟩:=yh I.hok e
  exact dd.typeIs
 ·obtain ⟨_,_,xs,_,dd⟩:=Aa I.hok e
  exact dd.typeIs
noncomputable def Ja (td ty:TE):TE:=fun σ H Q=>td σ H fun x H1=>ty σ H1 fun y H2=>∃ a v,x=.ref a/\jF H2 a y (some v)/\Q v H2
noncomputable def Ko (td ty tv:TE):TS:=fun D σ H=>tv σ H fun v H1=>td σ H1 fun x H2=>ty σ H2 fun y H3=>∃ a H4,x=.ref a/\nG H3 a y v H4/\D.nx σ H4
theorem cU {X:Cx} (hu:X.A.units+1<cLine) (ho:PE X o td) (hi:PE X i ty) (hs:Iw i):PE X (.Subscript o i pos) (Ja td ty):=by
 intro aq s σ H Q I h
 refine Cw PySem.F.slot_dict_getitem.lookup hs (cI (ho aq s σ H _ I h) fun u s1 ⟨x,H1,I1,rx,q1⟩=>cI (hi aq s1 σ H1 _ I1 q1) fun iv s2 ⟨y,H2,I2,ry,a,v,ex,g,q2⟩=>?_)
 subst ex
 obtain rfl:u=Value.ref a:=rx
 exact ⟨rN I2 g,xu hu I2 g ry fun w' s3 I3 rw'=>⟨v,H2,I3,rw',q2⟩⟩
theorem iY {X:Cx} {pos:Pos} (hu:X.A.units+1<cLine) (ho:PE X o td) (hi:PE X i ty) (hv:PE X value tv) (hs:swapsWith value (some (.Subscript o i pos')) pos.line X.env=pure false) :
 PS X (.Assign [.Subscript o i pos'] value pos) (Ko td ty tv):=by
 intro aq s σ H D I h
 refine wpAny_Assign_Subscript (cI (hv aq s σ H _ I h) fun r s1 ⟨v,H1,I1,rv,q1⟩=>cI (ho aq s1 σ H1 _ I1 q1) fun u s2 ⟨x,H2,I2,rx,q2⟩=>cI (hi aq s2 σ H2 _ I2 q2) fun iv s3 ⟨y,H3,I3,ry,a,H4,ex,g,q3⟩=>?_) hs
 subst ex
 obtain rfl:u=Value.ref a:=rx
 exact vZ hu I3 g ry rv fun s4 I4=>⟨σ,H4,I4,q3⟩
theorem rJ (h:Heap) (hb:sysModules<h.objs.size):dm P w H (h.push { cls:=.type "dict",data:=.dict #[] }) h.objs.size (.dK []):=
 ⟨Nat.zero_le _,beq_eq_false_iff_ne.mpr (Ne.symm (Nat.ne_of_lt hb)),[],.nil,Heap.DictOf.new h⟩
noncomputable def Gr:TE:=fun _ H Q=>∀ p,H p=none->Q (.ref p) (upd H p (.dK []))
theorem zG:PE X (.Dict [] [] pos) Gr:=fun aq s σ H Q I h=>
 wpAny_Dict_empty ⟨.ref s.heap.objs.size,_,I.laid (a:=s.heap.objs.size) (o:=.dK []) (t':=s.toks) (fun _ _ q=>Heap.get?_push_of_some _ q) (Nat.le_refl _) (rJ s.heap I.big),rfl,h _ (I.hok.fresh (Nat.le_refl _))⟩
noncomputable def uC:List (TE×TE)->St->Hp->(List (V×V)->Hp->Prop)->Prop
 |[],_,H,Q=>Q [] H
 |(tk,tv)::r,σ,H,Q=>tk σ H fun x H1=>tv σ H1 fun y H2=>uC r σ H2 fun ps H3=>Q ((x,y)::ps) H3
noncomputable abbrev VV:List (V×V)->List (Value×Value)->Prop:=Paired fun p q=>RelV p.1 q.1/\RelV p.2 q.2
noncomputable def Mu (X:Cx) (pos:Pos) (keys:List (Option Expr)) (values:List Expr) (trs:List (TE×TE)):Prop:=
 ∀ (aq:List (Addr×Obj)) (s:Shared) (σ:St) (H:Hp) (Q:List (V×V)->Hp->Prop),Inv X aq σ H s->uC trs σ H Q->
   wpAny (model X.prog X.w) X.A (evalPairs (pairTrees keys values X.env pos)) (fun vs s'=>∃ ps H',Inv X aq σ H' s'/\VV ps vs/\Q ps H') X.xe s
theorem v5:Mu X pos [] [] []:=fun aq s σ H Q I h=>pairTrees_nil_walk ⟨[],H,I,.nil,h⟩
theorem iC {X:Cx} {pos:Pos} {k v:Expr} {ks:List (Option Expr)} {vs:List Expr} {tk tv:TE} {trs:List (TE×TE)} (hk:PE X k tk) (hv:PE X v tv) (hr:Mu X pos ks vs trs) :
 Mu X pos (some k::ks) (v::vs) ((tk,tv)::trs):=fun aq s σ H Q I h=>
 pairTrees_cons_walk (cI (hk aq s σ H _ I h) fun u s1 ⟨x,H1,I1,rx,q1⟩=>cI (hv aq s1 σ H1 _ I1 q1) fun w2 s2 ⟨y,H2,I2,ry,q2⟩=>
  cI (hr aq s2 σ H2 _ I2 q2) fun ws s3 ⟨ps,H3,I3,rel,q3⟩=>⟨(x,y)::ps,H3,I3,.cons ⟨rx,ry⟩ rel,q3⟩)
noncomputable def iV (kvs more:List (Key×V)):List (Key×V):=more.foldl (fun acc kv=>putK acc kv.1 kv.2) kvs
theorem KV.merge:∀ {more:List (Key×V)} {rs:List (Key×Value)} {kvs:List (Key×V)} {vs:List (Key×Value)},KV more rs->KV kvs vs->KV (iV kvs more) (merged vs rs):=by
 intro more rs kvs vs r
 unfold KV at r
 induction r generalizing kvs vs with
 |nil=>intro q;exact q
 | @cons p q ps qs h t ih=>
   intro r0
   have e:KV (putK kvs p.1 p.2) (stored vs q.1 q.2):=by
    have:=r0.put p.1 h.2
    rw [← h.1];exact this
   exact ih e
theorem jQ:∀ (more kvs:List (Key×V)),(iV kvs more).length≤kvs.length+more.length
 |[],kvs=>by show kvs.length≤kvs.length+0;lia
 | p::r,kvs=>by
   have h1:=jQ r (putK kvs p.1 p.2)
   have h2:=gr kvs p.1 p.2
   show (iV (putK kvs p.1 p.2) r).length≤_
   rw [List.length_cons];lia
theorem oJ:∀ {kvs:List (Key×V)} {ws:List (Value×Value)},VV (kvs.map fun kv=>(kV kv.1,kv.2)) ws->∃ rs,Carries (du P w) ws rs/\KV kvs rs
 |[],_,r=>by rw [List.map_nil] at r;cases r;exact ⟨[],True.intro,.nil⟩
 | p::kvs,_,r=>by
   rw [List.map_cons] at r
   cases r with
   | @cons a b as bs h t=>
     obtain ⟨rs,c,q⟩:=oJ (P:=P) (w:=w) t
     obtain ⟨b1,b2⟩:=b
     exact ⟨(p.1,b2)::rs,⟨uK h.1,rfl,c⟩,.cons ⟨rfl,h.2⟩ q⟩
noncomputable def K9 (trs:List (TE×TE)):TE:=fun σ H Q=>∀ p,H p=none->uC trs σ (upd H p (.dK [])) fun ps H2=>H2 p=some (.dK [])/\∃ kvs:List (Key×V),ps=kvs.map (fun kv=>(kV kv.1,kv.2))/\kvs.length≤15/\Q (.ref p) (upd H2 p (.dK (iV [] kvs)))
theorem vG {X:Cx} {pos:Pos} {keys:List (Option Expr)} {values:List Expr} {trs:List (TE×TE)} (h:Mu X pos keys values trs) (hall:keys.all (·.isSome)=true) (hl:keys.length=values.length) (h0:keys≠[])
 (h15:keys.length≤15):PE X (.Dict keys values pos) (K9 trs):=by
 intro aq s σ H Q I q
 have hn:=I.hok.fresh (Nat.le_refl s.heap.objs.size)
 have I1:=I.laid (a:=s.heap.objs.size) (o:=.dK []) (h':=s.heap.push { cls:=.type "dict",data:=.dict #[] }) (t':=s.toks) (fun _ _ q=>Heap.get?_push_of_some _ q) (Nat.le_refl _) (rJ s.heap I.big)
 refine wpAny_Dict_walk (knd:=du X.prog X.w) hall hl h0 h15 (cI (h aq _ σ _ _ I1 (q _ hn)) fun ws s2 ⟨ps,H2,I2,rel,e,kvs,ep,lk,q2⟩=>?_)
 subst ep
 obtain ⟨rs,c,rk⟩:=oJ (P:=X.prog) (w:=X.w) rel
 obtain ⟨z,hd,vs0,r0,dd⟩:=Dg I2.hok e
 cases r0
 refine ⟨rs,c,dd,fun h' dd' hs=>⟨.ref s.heap.objs.size,_,?_,rfl,q2⟩⟩
 have hz:(iV [] kvs).length≤sizeLine:=by
  have h1:=jQ kvs []
  rw [List.length_nil] at h1
  rw [sizeLine_eq];lia
 have he:∃ q,h'.get? s.heap.objs.size=some q:=let ⟨q,_,_,hq,_⟩:=dd';⟨q,hq⟩
 exact qR I2 (by rw [e];exact True.intro) hs he (z9 hz hd (rk.merge .nil) dd')
structure M1 (X:Cx) (o:Expr) (m:Str) (apos:Pos) (e:Expr) (cpos:Pos):Prop where
 base:attributeBase o m X.env (eval o X.env)=eval o X.env
 few:((backTo cpos (starEach [e] X.env)).all (fun x=>!x.1) && (backToKw cpos (keywordEach [] X.env)).all (fun x=>x.1.isSome)
  && decide (([e]:List Expr).length+([]:List Keyword).length+(if ([]:List Keyword).isEmpty then 0 else 1)<30))=true
 line:(apos.endLine == cpos.line)=true
 trees:backTo cpos (starEach [e] X.env)=[(false,eval e X.env)]
end L2
namespace Att
open PySem PySem.W PySem.Calls PyProof.Rows
theorem mR:∀ (ns:List Int) (vs:List Value),WellAll P h vs (ns.map WData.int)->IntsAre vs ns:=by
 intro ns
 induction ns with
 | nil=>
   intro vs w
   rw [List.map_nil] at w
   cases w
   exact .nil
 | cons n ns ih=>
   intro vs w
   rw [List.map_cons] at w
   cases w with
   | cons a b=>
     cases a
     exact .cons _ _ (ih _ b)
theorem wL {l:OpenLaw} (hn:l.most=some n) {h:Heap}
 (hpre:l.row.toRowW.claim.pre args=true) (hwl:WellAll P h vals args) :
 ∃ a vs ns,vals=[Value.ref a]/\args=[WData.list (ns.map WData.int)]/\h.get? a=some { cls:=.type "list",data:=.seq vs.toArray }/\IntsAre vs ns/\ns.length≤n:=by
 have hsh:WShape.hasAll [] args [.list .int]=true:=(pre_splitW hpre).1
 have hc:l.pre.holds [] { args:=args }=true:=(pre_splitW hpre).2
 obtain ⟨d,r,rfl,h1,h2⟩:=hasAllW_cons hsh
 obtain rfl:=hasAllW_nil h2
 obtain ⟨xs,rfl,h3⟩:=hasW_list h1
 obtain ⟨ns,rfl⟩:=items_int h3
 have hlen:ns.length≤n:=by
  unfold OpenLaw.pre at hc
  have h4:(WTm.not (.lt (.lit (.int (n:Int))) (.len (.arg 0)))).holds [] { args:=[.list (ns.map .int)] }=true:=by
   have h4:=(holds_andW hc).1
   rw [hn] at h4
   exact h4
  have h5:=condW_of h4 (w_not (w_lt w_lit (w_len_list (w_arg rfl))))
  rw [List.length_map] at h5
  refine Nat.le_of_not_lt fun q=>?_
  have q':(n:Int)<((ns.length:Nat):Int):=by lia
  first
   |(rw [decide_eq_true q'] at h5;exact absurd h5 (by decide))
   |(simp at h5;lia)
 cases hwl with
 | cons w1 w2=>
   cases w2
   cases w1 with
   |list ho hall=>exact ⟨_,_,ns,rfl,rfl,ho,mR ns _ hall,hlen⟩
theorem xH (l:OpenLaw) (args:List WData):l.row.toRowW.claim.post args (.bool true) args=true:=
 postW_of (r:=l.row.toRowW) (X:=(true == true))
  (show WShape.has [] (.bool true) .bool=true by first|rfl|decide|simp [WShape.has,WShape.arms,WShape.armsAll])
  (show (WTm.eq .res (.lit (.bool true))).value [] { args:=args,res:=some (.bool true),after:=args }=some (.bool (true == true)) from w_eq_bool (w_res rfl) w_lit) rfl
theorem rE {l:OpenLaw} {YP:World->Heap->Prop} {d:DefRec}
 (hn:l.most=some n) (hdf:d.params.defaults=[])
 (call:∀ (w:World) (s₀ s₁:Shared) (mg mb:Str->Option Value) (fa:Addr) (o:Obj) (pm cd doc:Value) (a:Addr) (vs:List Value) (ns:List Int),
  Ground q loose [] XP w s₀ mg mb s₁.heap->YP w s₁.heap->
  s₁.heap.get? fa=some o->o.data=.func (docDef d.name d.params d.body d.scope pm cd doc)->s₁.heap.CodeRec cd d.name->mg d.name=some (.ref fa)->
  s₁.heap.get? a=some { cls:=.type "list",data:=.seq vs.toArray }->IntsAre vs ns->ns.length≤n->s₁.gens=#[]->
  codeAny (model l.prog w) callerA (.call (.ref fa) ⟨[.ref a],[]⟩) (fun r s'=>r=.ok (.ret (.bool true))/\OldK s₁.heap s'.heap/\s'.os=s₁.os/\AllBare s'.gens) s₁) :
 WalkO q loose XP YP l.row.toRowW d [] (fun f vs=>PySem.call f vs):=by
 intro w s₀ s₁ mg mb G Y fa o pm cd doc dV kV ho hd hcd hD hmg hg args vals as hpre hlay hrd hwl hlo
 obtain rfl:dV=.none:=Dflts.none hD hdf
 obtain rfl:kV=.none:=Dflts.noKw hD
 obtain ⟨a,vs,ns,rfl,rfl,hobj,hints,hlen⟩:=wL hn hpre hwl
 refine enter_call (codeAny_mono (call w s₀ s₁ mg mb fa o pm cd doc a vs ns G Y ho (fd_plain hd) hcd hmg hobj hints hlen hg) fun r s' hq=>?_)
 obtain ⟨rfl,h2,h3,h4⟩:=hq
 exact ⟨.inl ⟨.bool true,.bool true,[],rfl,fun _=>rfl,.bool true,xH l _,fun _=>⟨List.Pairwise.nil,fun _ hm=>(nomatch hm)⟩⟩,h2,h3,h4⟩
section
variable {prog:Program} {w:World} {A:Around} {E:Value->Shared->Prop} {s:Shared} {K:Frag}
end
end Att
namespace L2
open PySem PySem.Spec PyProof.Rows
theorem pF:∀ {vs:List Value} {ns:List Int},IntsAre vs ns->Vals (ns.map V.int) vs
 |_,_,.nil=>.nil
 |_,_,.cons n t h=>.cons ⟨t,rfl⟩ (pF h)
noncomputable def Only (H:Hp):Prop:=∀ b,H b=none∨∃ o xs,H b=some (.frz o (.lst xs))
theorem yS {K:PySem.W.Frag} {mb:Str->Option Value} {s₁:Shared} {vs:List Value} {ns:List Int}
 (KX:K.In s₁.heap) (hns:s₁.heap.Ns mainGlobals mg) (hb:s₁.heap.Ns builtinsNs mb) (hbb:∀ x:Str,x ≠ "__name__"->mb x=bootBuiltins x) (hlim:s₁.heap.NoLimit) (hg:s₁.gens=#[])
 (ha:s₁.heap.get? a=some { cls:=.type "list",data:=.seq vs.toArray }) (hi:IntsAre vs ns) (hl:ns.length≤sizeLine) (hr:bR k callerA)
 (F:∀ base:Heap,K.In base->base.Ns mainGlobals mg->aQ P w K mg base CX k fa fd [x] sp) (hbind:∀ (s:Shared) (u:Value),BindsTo s fd ⟨[u],[]⟩ [(x,u)])
 (hsp:∀ H:Hp,Only H->bF K H a (ns.map V.int)->sp [.ref a] H (fun v _=>v=.bl true) fun _ _ _=>False)
 (hCX:∀ H e s',CX [] H s₁ (fun _ _ _=>False) e s'->False) :
 codeAny (model P w) callerA (.call (.ref fa) ⟨[.ref a],[]⟩) (fun r s'=>r=.ok (.ret (.bool true))/\OldK s₁.heap s'.heap/\s'.os=s₁.os/\AllBare s'.gens) s₁:=by
 have rv:=pF hi
 have lenV:=hi.length
 have core:∀ H:Hp,Only H->bF K H a (ns.map V.int)->jW P w H s₁.heap->(∀ b,H b≠none->b=a)->(H a≠none->K.lookup a=none)->
  codeAny (model P w) callerA (.call (.ref fa) ⟨[.ref a],[]⟩) (fun r s'=>r=.ok (.ret (.bool true))/\OldK s₁.heap s'.heap/\s'.os=s₁.os/\AllBare s'.gens) s₁:=by
  intro H hO hS hok hA hK
  have base_of:∀ {b:Addr} {o:Obj},s₁.heap.get? b=some o->H b=none->(qz s₁.heap H).get? b=some o:=fun e n=>z_ e n
  have noA:∀ {b:Addr} {o:Obj} {es:Array DictEntry} {ep:Nat},s₁.heap.get? b=some o->o.data=.dict es ep->H b=none:=fun {b o es ep} e d=>by
   cases q:H b with
   |none=>rfl
   | some u=>
     have e':b=a:=hA b (by rw [q];simp)
     subst e'
     rw [ha] at e;cases e
     have d':Data.seq vs.toArray _=Data.dict es ep:=d
     cases d'
  have nsK:∀ {b:Addr} {m:Str->Option Value},s₁.heap.Ns b m->(qz s₁.heap H).Ns b m:=fun {b m} ⟨o,es,ep,e,d,r⟩=>⟨o,es,ep,base_of e (noA e d),d,r⟩
  have hKb:K.In (qz s₁.heap H):=fun b o e=>base_of (KX b o e) (by
   cases q:H b with
   |none=>rfl
   | some u=>
     have e':b=a:=hA b (by rw [q];simp)
     subst e'
     rw [hK (by rw [q];simp)] at e;cases e)
  have hM:Mod K mg (qz s₁.heap H):=⟨hKb,nsK hns,⟨mb,nsK hb,hbb⟩,let ⟨mc,h1,h2⟩:=hlim;⟨mc,nsK h1,h2⟩⟩
  have e0:tY P w K mg (qz s₁.heap H) callerA [] s₁ H:=⟨rfl,hM,fun b o e=>CP e,Nat.le_of_eq (wy _ _),trivial,fun b hb=>absurd (show b∈([]:List Addr) from hb) (by simp),hok,.of_eq hg⟩
  refine codeAny_mono ((F _ hKb (nsK hns)).run callerA [] s₁ H ⟨[.ref a],[]⟩ [.ref a] [.ref a] _ _ hr e0 (hbind s₁ (.ref a)) (.cons rfl .nil) (hsp H hO hS)) fun r s' h=>?_
  cases r with
  |error e=>exact (hCX H e s' h).elim
  | ok fl=>
    cases fl with
    |next=>exact False.elim h
    |brk=>exact False.elim h
    |cont=>exact False.elim h
    | ret u=>
      obtain ⟨v,H',os,bare,un,hok',r',q⟩:=h
      have q':v=.bl true:=q
      subst q'
      obtain rfl:u=Value.bool true:=r'
      refine ⟨rfl,OldK.of_keep fun b o e=>?_,os,bare⟩
      cases q:H b with
      |none=>exact un.keep b o e q (by intro z;exact absurd (show b∈([]:List Addr) from z) (by simp)) (by simp)
      | some u=>
        rcases hO b with z|⟨ob,xs,z⟩
        ·rw [q] at z;cases z
        ·have z2:=un.frzs b ob _ z
         obtain ⟨e1,_⟩:=hok b _ z
         obtain ⟨e2,_⟩:=hok' b _ z2
         rw [e] at e1;cases e1
         exact e2
 cases hk:K.lookup a with
 | some o=>
   have e:=KX a o hk
   rw [ha] at e
   cases e
   refine core (fun _=>none) (fun _=>.inl rfl) (.inr ⟨_,vs.toArray,_,hk,rfl,rfl,rfl,by rw [List.size_toArray,lenV];exact hl,by simpa using rv⟩) (fun b u z=>by have z':(none:Option HO)=some u:=z;cases z') (fun b z=>absurd rfl z) fun z=>absurd rfl z
 | none=>
   refine core (fun b=>if b=a then some (.frz { cls:=.type "list",data:=.seq vs.toArray } (.lst (ns.map V.int))) else none) (fun b=>?_) (.inl (.inr ⟨{ cls:=.type "list",data:=.seq vs.toArray },if_pos rfl⟩)) (fun b u z=>?_) (fun b z=>?_) fun _=>hk
   ·by_cases hb:b=a
    ·exact .inr ⟨_,_,if_pos hb⟩
    ·exact .inl (if_neg hb)
   ·by_cases hb:b=a
    ·have z':=(if_pos hb).symm.trans z
     cases z'
     subst hb
     exact ⟨ha,by rw [List.length_map];exact hl,vs,_,rv,ha⟩
    ·have z':=(if_neg hb).symm.trans z
     cases z'
   ·by_cases hb:b=a
    ·exact hb
    ·exact absurd (if_neg hb) z
theorem Bm {l:PySem.W.OpenLaw} {YP:World->Heap->Prop} {d:DefRec} {K:Params->PySem.W.Frag} {CX:World->BP} {sp:World->Sp}
 (hn:l.most=some n) (hn2:n≤sizeLine) (hdf:d.params.defaults=[]) (hr:bR k callerA)
 (hY:∀ (w:World) (h:Heap),YP w h->(K w.params).In h)
 (F:∀ (w:World) (mg:Str->Option Value) (fa:Addr) (h:Heap),(K w.params).In h->h.Ns mainGlobals mg->mg d.name=some (.ref fa)->
  ∃ fd:FuncData,(∀ (s:Shared) (u:Value),BindsTo s fd ⟨[u],[]⟩ [(x,u)])/\
    ∀ base:Heap,(K w.params).In base->base.Ns mainGlobals mg->aQ l.prog w (K w.params) mg base (CX w) k fa fd [x] (sp w))
 (hsp:∀ (w:World) (H:Hp) (a:Addr) (ns:List Int),ns.length≤n->Only H->bF (K w.params) H a (ns.map V.int)->sp w [.ref a] H (fun v _=>v=.bl true) fun _ _ _=>False)
 (hCX:∀ (w:World) (H:Hp) (s:Shared) (e:Value) (s':Shared),CX w [] H s (fun _ _ _=>False) e s'->False) :
 PySem.W.WalkO q loose XP YP l.row.toRowW d [] (fun f vs=>PySem.call f vs):=by
 refine Att.rE hn hdf fun w s₀ s₁ mg mb fa o pm cd doc a vs ns G Y ho hd hcd hmg hobj hints hlen hg=>?_
 have KX:=hY w _ Y
 obtain ⟨fd,hb,hF⟩:=F w mg fa _ KX G.T.g hmg
 exact yS KX G.T.g G.T.b G.T.builtins G.T.nolimit hg hobj hints (Nat.le_trans hlen hn2) hr hF hb (fun H hO hS=>hsp w H a ns hlen hO hS) fun H e s'=>hCX w H s₁ e s'
noncomputable def inClass (s:Stmt) (j:Nat):Stmt:=match s with
 |.ClassDef _ _ _ body _ _ _ _ _ _ _=>body.getD j (.Pass ⟨0,0,0,0⟩)
 |_=>.Pass ⟨0,0,0,0⟩
noncomputable def fK (s:Stmt):Arguments:=match s with
 |.FunctionDef _ a _ _ _ _ _ _ _ _=>a
 |_=>{ posonlyargs:=[],args:=[],vararg:=none,kwonlyargs:=[],kw_defaults:=[],kwarg:=none,defaults:=[] }
noncomputable def dU (s:Stmt):List Stmt:=match s with
 |.FunctionDef _ _ b _ _ _ _ _ _ _=>b
 |_=>[]
noncomputable def aD (s:Stmt):Scope:=match s with
 |.FunctionDef _ _ _ _ _ _ sc _ _ _=>sc
 |_=>{ kind:=.function,names:=[],isGenerator:=false,isCoroutine:=false }
noncomputable abbrev bC:BP:=fun _ _ _ _ _ _=>False
noncomputable abbrev E0:XK:=fun _ _ _=>False
theorem lC:lR bC X E0:=fun _ _ _ _ _ _ _ h=>h.elim
structure fc (K:PySem.W.Frag) (x qual:Str) (st:Stmt) (f:Addr) (fd:FuncData):Prop where
 ex:∃ (oc:Value) (od:Option Addr) (kV doc pm:Value) (an:Option Addr) (cdv ct:Value) (osl:Array (Option Value)),
  fd=PySem.W.fnOf x qual (fK st) (dU st) (aD st) .none kV doc pm an cdv ct/\K.lookup f=some ⟨oc,od,.func fd,osl⟩/\PySem.W.codeIn K cdv qual=true
 kp:PySem.W.keepIn K (.ref f)=true
theorem fc.ok {P:Program} {w:World} {K:PySem.W.Frag} {mg:Str->Option Value} {base:Heap} {x qual:Str} {st:Stmt} {f:Addr} {fd:FuncData} {N ps:List Str} {k:Nat} {sp:Sp} (F:fc K x qual st f fd) (S:aU N ps (aD st)) (len:∀ vs H Q E,sp vs H Q E->vs.length=ps.length)
 (hbody:∀ (cdv:Value) (A:Around) (outer:List Env) (s:Shared) (H:Hp) (vs:List V) (Q:VK) (E:XK),bR k (A.deeper (envOfC qual (aD st) s.heap.objs.size f cdv))->sp vs H Q E->
  ∃ t,uT (uG bC P w K mg base N qual (aD st) f cdv A outer s H E).nox (dU st) t/\t { nx:=fun _ H'=>Q .non H',rt:=Q } (start N vs) H):aQ P w K mg base bC (k+1) f fd ps sp:=by
 obtain ⟨oc,od,kV,doc,pm,an,cdv,ct,osl,rfl,lk,hcd⟩:=F.ex
 refine C_ lk hcd S len fun A outer s H vs Q E hr hsp=>?_
 obtain ⟨t,h,q⟩:=hbody cdv A outer s H vs Q E hr hsp
 exact ⟨t,h.nox,q⟩
theorem fc.binds {K:PySem.W.Frag} {x qual:Str} {st:Stmt} {f:Addr} {fd:FuncData} {ps:List Str} (F:fc K x qual st f fd)
 (h:∀ (kV doc pm:Value) (an:Option Addr) (cdv ct:Value) (us:List Value),us.length=ps.length->bindArgs (PySem.W.fnOf x qual (fK st) (dU st) (aD st) .none kV doc pm an cdv ct) ⟨us,[]⟩=pure (ps.zip us)):Binds K fd ps []:=by
 obtain ⟨oc,od,kV,doc,pm,an,cdv,ct,osl,rfl,lk,hcd⟩:=F.ex
 exact .all (h kV doc pm an cdv ct)
theorem vC (hr:bR k A):A.units+1<cLine:=Nat.lt_of_le_of_lt (Nat.add_le_add_left (by decide:1≤64) _) hr.units
theorem gf (h:n≤1000):n<sizeLine:=Nat.lt_of_le_of_lt h (by decide)
theorem pv (i:Nat) (hN:X.N[i]?=some x:=by rfl) (hv:Jg X.env.scope x:=by first|exact Or.inl rfl|exact Or.inr (.inl rfl)|exact Or.inr (.inr rfl)) (hd:(x == ("__debug__" : Str))=false:=by decide)
 (hcd:(x == ("__classdict__" : Str))=false:=by decide):PE X (.Name x pos) (kh i):=Gn hN hv hd hcd
theorem dC {c A B:Prop} [Decidable c] (h1:c->A) (h2:¬ c->B):if c then A else B:=by
 by_cases h:c
 ·rw [if_pos h]
  exact h1 h
 ·rw [if_neg h]
  exact h2 h
noncomputable def aC (H H':Hp):Prop:=∀ b o,H b=some o->H' b=some o
theorem aC.refl (H:Hp):aC H H:=fun _ _ h=>h
theorem aC.trans (a:aC H H1) (b:aC H1 H2):aC H H2:=fun c o h=>b c o (a c o h)
theorem aC.free (e:aC H H') (h:H' l=Option.none):H l=Option.none:=by
 cases q:H l with
 |none=>rfl
 | some o=>
   rw [e l o q] at h
   cases h
theorem aC.seq {K:PySem.W.Frag} {H H':Hp} {a:Addr} {xs:List V} (e:aC H H') (h:bF K H a xs):bF K H' a xs:=by
 rcases h with (h|⟨o,h⟩)|h
 ·exact .inl (.inl (e _ _ h))
 ·exact .inl (.inr ⟨o,e _ _ h⟩)
 ·exact .inr h
section
variable {κ:Type} [DecidableEq κ]
theorem uV:∀ {l:List κ} {k:κ},l.Nodup->¬ k∈l->(l++[k]).Nodup
 |[],k,_,_=>by simp
 | a::r,k,h,hk=>by
   obtain ⟨h1,h2⟩:=List.nodup_cons.mp h
   show (a::(r++[k])).Nodup
   refine List.nodup_cons.mpr ⟨fun m=>?_,uV h2 fun m=>hk (List.mem_cons.mpr (Or.inr m))⟩
   rcases List.mem_append.mp m with q|q
   ·exact h1 q
   ·exact hk (List.mem_cons.mpr (Or.inl (List.mem_singleton.mp q).symm))
end
theorem oM (scope:Scope) (h:∀ y∈scope.names,y.2=.free->∃ c,env.cells.lookup y.1=some c) :
 ∃ cl,closureFor scope env=pure cl/\(∀ x c,cl.lookup x=some c->env.cells.lookup x=some c)/\∀ x,(x,NameKind.free)∈scope.names->∃ c,cl.lookup x=some c:=by
 have go:∀ (names:List (Str×NameKind)) (acc:List (Str×Addr)),(∀ y∈names,y.2=.free->∃ c,env.cells.lookup y.1=some c)->(∀ x c,acc.lookup x=some c->env.cells.lookup x=some c)->
  ∃ cl,(forIn names acc fun x cs=>(match x with
    |(name,kind)=>if kind == NameKind.free then (do let c ← cellOf env name;pure (ForInStep.yield ((name,c)::cs))) else pure (ForInStep.yield cs):Sem (ForInStep (List (Str×Addr)))))=pure cl/\
    (∀ x c,cl.lookup x=some c->env.cells.lookup x=some c)/\(∀ x,(x,NameKind.free)∈names∨(∃ c,acc.lookup x=some c)->∃ c,cl.lookup x=some c):=by
  intro names
  induction names with
  |nil=>intro acc _ ha;exact ⟨acc,rfl,ha,fun x z=>z.elim (fun q=>nomatch q) id⟩
  | cons y r ih=>
    intro acc hy ha
    obtain ⟨n,k⟩:=y
    by_cases hk:k=.free
    ·subst hk
     obtain ⟨c,hc⟩:=hy (n,.free) List.mem_cons_self rfl
     obtain ⟨cl,e,h1,h2⟩:=ih ((n,c)::acc) (fun z hz=>hy z (List.mem_cons_of_mem _ hz)) (fun x c' hx=>by
      rw [List.lookup_cons] at hx
      by_cases q:x == n
      ·rw [q] at hx
       cases hx
       rw [beq_iff_eq.mp q];exact hc
      ·rw [Bool.not_eq_true] at q
       rw [q] at hx
       exact ha x c' hx)
     refine ⟨cl,?_,h1,fun x z=>h2 x ?_⟩
     ·rw [List.forIn_cons]
      simp only [beq_self_eq_true,if_true,cellOf,hc]
      exact e
     ·have aux:∀ x,(∃ c',acc.lookup x=some c')->∃ c',((n,c)::acc).lookup x=some c':=fun x ⟨c',z⟩=>by
       rw [List.lookup_cons]
       by_cases q:x == n
       ·rw [q];exact ⟨_,rfl⟩
       ·rw [Bool.not_eq_true] at q
        rw [q];exact ⟨c',z⟩
      rcases z with z|z
      ·rcases List.mem_cons.mp z with z|z
       ·cases z
        exact .inr ⟨c,by rw [List.lookup_cons,beq_self_eq_true]⟩
       ·exact .inl z
      ·exact .inr (aux x z)
    ·have hb:(k == NameKind.free)=false:=by simpa using hk
     obtain ⟨cl,e,h1,h2⟩:=ih acc (fun z hz=>hy z (List.mem_cons_of_mem _ hz)) ha
     refine ⟨cl,?_,h1,fun x z=>h2 x ?_⟩
     ·rw [List.forIn_cons]
      simp only [hb,Bool.false_eq_true,if_false]
      exact e
     ·rcases z with z|z
      ·rcases List.mem_cons.mp z with z|z
       ·cases z
        exact absurd rfl hk
       ·exact .inl z
      ·exact .inr z
 obtain ⟨cl,e,h1,h2⟩:=go scope.names [] h (fun x c z=>by simp at z)
 refine ⟨cl,?_,h1,fun x z=>h2 x (.inl z)⟩
 unfold closureFor
 exact (congrArg (fun (m:Sem (List (Str×Addr)))=>m >>= fun cs=>pure cs) e).trans rfl
noncomputable def cO (X:Cx) (scope:Scope) (N':List Str) (cl:List (Str×Addr)) (C:Addr) (s₀:Shared) (H₀:Hp) (ex:List Addr):Cx where
 prog:=X.prog
 w:=X.w
 K:=X.K
 mg:=X.mg
 base:=X.base
 A:=X.A
 N:=N'
 s₀:=s₀
 H₀:=H₀
 env:=compEnvC scope cl C X.env
 outer:=X.stack
 stack:=X.stack
 ex:=ex
 fn:=fun _=>false
 calm:=X.calm
 pn:=[]
 xe:=fun _ _=>False
noncomputable def jg (k:Nat) (js:List Nat) (σ:St):St:=List.replicate k none++js.map fun j=>(σ[j]?).join
theorem sV (k:Nat) (js:List Nat) (σ:St):(jg k js σ).length=k+js.length:=by simp [jg]
structure bL (X:Cx) (scope:Scope) (own:List Str) (js:List Nat) (N':List Str):Prop where
 kind:scope.kind=.function
 nocell:∀ y∈scope.names,y.2≠.cell
 names:∀ y∈scope.names,y.2=.local->scope.names.lookup y.1=some .local
 free:∀ y∈scope.names,y.2=.free->X.env.kindOf y.1=some .cell∨X.env.kindOf y.1=some .free
 nm:N'=own++js.map fun j=>X.N.getD j Str.empty
 fr:∀ j∈js,j<X.N.length/\(X.N.getD j Str.empty,NameKind.free)∈scope.names/\∀ k,(X.N.getD j Str.empty,k)∈scope.names->k=.free
theorem mU {names:List (Str×NameKind)} (h:(x,NameKind.free)∈names) (u:∀ k,(x,k)∈names->k=.free):names.lookup x=some .free:=by
 induction names with
 |nil=>cases h
 | cons y r ih=>
   obtain ⟨n,k⟩:=y
   rw [List.lookup_cons]
   by_cases q:x == n
   ·rw [q]
    have e:x=n:=beq_iff_eq.mp q
    subst e
    rw [u k List.mem_cons_self]
   ·rw [Bool.not_eq_true] at q
    rw [q]
    refine ih ?_ fun k hk=>u k (List.mem_cons_of_mem _ hk)
    rcases List.mem_cons.mp h with z|z
    ·cases z
     rw [beq_self_eq_true] at q;cases q
    ·exact z
theorem mL (h:(x,k)∈(relabel scope env).names) (hk:k=.cell∨k=.free) (hc:∀ y∈scope.names,y.2≠.cell):(x,NameKind.free)∈scope.names:=by
 unfold relabel at h
 obtain ⟨⟨n,k'⟩,hm,e⟩:=List.mem_map.mp h
 dsimp only at e
 by_cases q:(k' == NameKind.free && env.scope.kind == .function && env.kindOf n == some .cell)=true
 ·rw [if_pos q] at e
  cases e
  rw [Bool.and_eq_true,Bool.and_eq_true] at q
  have:k'=.free:=by simpa using q.1.1
  rw [← this];exact hm
 ·rw [if_neg q] at e
  cases e
  rcases hk with z|z
  ·exact absurd z (hc _ hm)
  ·rw [← z];exact hm
theorem gK {env:Env} {x:Str}:∀ {names:List (Str×NameKind)},names.lookup x=some .free->
 (names.map fun (n,k)=>if (k == NameKind.free && env.scope.kind == .function && env.kindOf n == some .cell) then (n,NameKind.cell) else (n,k)).lookup x=some .cell∨
 (names.map fun (n,k)=>if (k == NameKind.free && env.scope.kind == .function && env.kindOf n == some .cell) then (n,NameKind.cell) else (n,k)).lookup x=some .free
 |[],h=>by simp at h
 | (n,k)::r,h=>by
   have ih:=@gK env x r
   rw [List.lookup_cons] at h
   rw [List.map_cons]
   dsimp only
   by_cases q:x == n
   ·rw [q] at h
    cases h
    by_cases c:(NameKind.free == NameKind.free && env.scope.kind == .function && env.kindOf n == some .cell)=true
    ·rw [if_pos c,List.lookup_cons,q];exact .inl rfl
    ·rw [if_neg c,List.lookup_cons,q];exact .inr rfl
   ·rw [Bool.not_eq_true] at q
    rw [q] at h
    by_cases c:(k == NameKind.free && env.scope.kind == .function && env.kindOf n == some .cell)=true
    ·rw [if_pos c,List.lookup_cons,q];exact ih h
    ·rw [if_neg c,List.lookup_cons,q];exact ih h
theorem Inv.comp {X:Cx} {H:Hp} {s:Shared} {scope:Scope} {own:List Str} {cl:List (Str×Addr)} {h₁:Heap} (S:bL X scope own js N') (I:Inv X aq σ H s)
 (hc1:∀ x c,cl.lookup x=some c->X.env.cells.lookup x=some c) (hc2:∀ x,(x,NameKind.free)∈scope.names->∃ c,cl.lookup x=some c) (hC:s.heap.objs.size≤C) (hns:h₁.Ns C m) (hk:∀ b o,s.heap.get? b=some o->h₁.get? b=some o)
 (hf:∀ b∈fp,kE X aq H b/\b<s.heap.objs.size) (hHC:H C=none) (hfree:∀ b o,s.heap.get? b=some o->b≠C) :
 Inv (cO X scope N' cl C s H fp) [] (jg own.length js σ) H { s with heap:=h₁,toks:=tk }:=by
 have ltx:∀ b o,X.s₀.heap.get? b=some o->b∉X.ex->b∉fp:=fun b o e hx hb=>by
  rcases (hf b hb).1.2.2.2.1 with z|z
  ·exact hx z
  ·exact absurd (Nat.lt_of_lt_of_le (Heap.lt_size e) z) (Nat.lt_irrefl _)
 refine ⟨⟨I.ok.mod,S.kind,I.ok.glob,I.ok.blt,hC,fun x y c h1 h2=>I.ok.inj x y c (hc1 x c h1) (hc1 y c h2),fun x hx=>?_,fun x c z=>(nomatch z),I.ok.hd,I.ok.frames,.inl rfl,fun b hb=>⟨Nat.ne_of_lt (Nat.lt_of_lt_of_le (hf b hb).2 hC),fun x c e=>(hf b hb).1.2.2.2.2.1 x c (hc1 x c e)⟩,I.bs,Nat.le_trans I.ok.bsz I.sz,fun b o e=>ltx b o (I.ok.bs b o e).1 (I.ok.noex b o e),fun b hb z=>?_,I.stack,I.stkFree⟩,
  rfl,I.bare,Un.kept hk,⟨m,hns,fun i x v e1 e2 e3=>?_⟩,fun x c e=>?_,hHC,fun x c e=>I.freeC x c (hc1 x c e),fun p hp=>absurd (show p∈([]:List (Addr×Obj)) from hp) (by simp),I.hok.kept hk,?_⟩
 ·have hx':(relabel scope X.env).names.lookup x=some .cell∨(relabel scope X.env).names.lookup x=some .free:=hx
  rcases hx' with z|z
  ·exact hc2 x (mL (PySem.mem_of_lookup z) (.inl rfl) S.nocell)
  ·exact hc2 x (mL (PySem.mem_of_lookup z) (.inr rfl) S.nocell)
 ·obtain ⟨_,f1,f2,_⟩:=(hf b hb).1
  rcases List.mem_cons.mp (I.stkSub b z) with q|q
  ·exact f1 q
  ·exact f2 q
 ·
  unfold jg at e2
  by_cases hi:i<own.length
  ·rw [List.getElem?_append_left (by simpa using hi),List.getElem?_replicate] at e2
   split at e2 <;> cases e2
  ·rw [List.getElem?_append_right (by simpa using hi),List.length_replicate,List.getElem?_map] at e2
   cases ej:js[i-own.length]? with
   |none=>rw [ej] at e2;cases e2
   | some j=>
     rw [ej] at e2
     have e2':(σ[j]?).join=some v:=by simpa using e2
     have hσ:σ[j]?=some (some v):=by
      cases q:σ[j]? with
      |none=>rw [q] at e2';cases e2'
      |some o=>rw [q] at e2';exact congrArg some e2'
     have hj:=S.fr j (List.mem_of_getElem? ej)
     have hx:x=X.N.getD j Str.empty:=by
      have e1':N'[i]?=some x:=e1
      rw [S.nm,List.getElem?_append_right (by lia),List.getElem?_map,ej] at e1'
      exact (Option.some.inj e1').symm
     have hN:X.N[j]?=some x:=by
      rw [hx,List.getD_eq_getElem?_getD,List.getElem?_eq_getElem hj.1];rfl
     have hfr:scope.names.lookup x=some .free:=by rw [hx];exact mU hj.2.1 hj.2.2
     have hkx:=S.free (x,.free) (by rw [hx];exact hj.2.1) rfl
     have hvis:Jg X.env.scope x:=hkx.elim (fun z=>.inr (.inl z)) fun z=>.inr (.inr z)
     obtain ⟨mX,hnX,hlX⟩:=I.loc
     obtain ⟨u,r,l⟩:=hlX j x v hN hσ hvis
     refine ⟨u,r,.inr ⟨gK hfr,?_⟩⟩
     rcases l with ⟨z,_⟩|⟨_,c,hc,hcell⟩
     ·rcases hkx with q|q
      ·have:=q.symm.trans z;cases this
      ·have:=q.symm.trans z;cases this
     ·obtain ⟨c',hc'⟩:=hc2 x (by rw [hx];exact hj.2.1)
      have:c'=c:=Option.some.inj ((hc1 x c' hc').symm.trans hc)
      subst this
      obtain ⟨o,ho,hd⟩:=hcell
      exact ⟨c',hc',o,hk _ _ ho,hd⟩
 ·obtain ⟨v,o,ho,hd⟩:=I.cell x c (hc1 x c e)
  exact ⟨v,o,hk _ _ ho,hd⟩
 ·rw [sV]
  show _=N'.length
  rw [S.nm];simp
noncomputable def xn (Y:Cx) (ifs:List Expr) (t:TT):Prop:=
 ∀ (aq:List (Addr×Obj)) (s:Shared) (σ:St) (H:Hp) (Q:Bool->Hp->Prop),Inv Y aq σ H s->t σ H Q->
   wpAny (model Y.prog Y.w) Y.A (forIn ifs true fun c r=>if r=true then do let ok ← isTrue c Y.env (eval c Y.env);pure (ForInStep.yield ok) else pure (ForInStep.yield r)) (TP Y aq σ Q) Y.xe s
noncomputable def wM:TT:=fun _ H Q=>Q true H
theorem dF:xn Y [] wM:=fun _ _ _ H _ I h=>wpAny_tests_nil ⟨H,I,h⟩
theorem kW (h:PT Y c t):xn Y [c] t:=fun aq s σ H Q I hw=>wpAny_tests_one (h aq s σ H Q I hw)
noncomputable abbrev gh (us:List Value) (k:Nat):Obj:={ cls:=.type "list",data:=.seq us.toArray k }
noncomputable def ji (J:It) (g:TG) (tt:TT) (te:TE) (F:List V->Hp->Prop) (W:Nat->Nat->List V->St->Hp->Prop):Prop:=
 ∀ i m ys σ H,W i m ys σ H->(J.stop i H/\F ys H)∨(J.go i H/\ys.length<sizeLine/\∀ x H1,J.yld i H x H1->g x σ H1 fun σ2 H2=>tt σ2 H2 fun b H3=>
   if b=true then te σ2 H3 fun y H4=>∃ m',m'<m/\W (i+1) m' (ys++[y]) σ2 H4 else ∃ m',m'<m/\W (i+1) m' ys σ2 H3)
theorem wR
 (W : Nat->Nat->List V->St->Hp->Prop) (turn:ji J g tt te F W) (T:Turn X.prog X.w X.K tg J fp it tn)
    (hg:PG (cO X scope N' cl C s₂ H₂ fp) tg g) (hc:xn (cO X scope N' cl C s₂ H₂ fp) ifs tt) (he:PE (cO X scope N' cl C s₂ H₂ fp) elt te) (hcalm:X.calm=true)
    (hfp:∀ b∈fp,b≠C/\b∉frs X.stack/\(∀ x c,cl.lookup x=some c->c≠b)/\b≠acc) (hacc:acc≠C/\acc∉frs X.stack/\(∀ x c,cl.lookup x=some c->c≠acc)/\s₂.heap.objs.size≤acc)
    (hR:∀ s' σ' H' ys us k,Inv (cO X scope N' cl C s₂ H₂ fp) [(acc,gh us k)] σ' H' s'->Vals ys us->F ys H'->R (.ok .next) s')
 (I : Inv (cO X scope N' cl C s₂ H₂ fp) [(acc,gh [] 0)] σ H s) (st:tn 0 s.heap) (fr:∀ b∈fp,H b=none) (w0:W 0 m [] σ H) :
    codeAny (model X.prog X.w) X.A (.compLoop (.ListComp elt [⟨tg,iter,ifs,0⟩] scope pos) 0 (.ref it) (.ref acc) (compEnvC scope cl C X.env)) R s:=by
  refine codeAny_loop rfl (fun n s'=>∃ i ys us k σ' H',Vals ys us/\Inv (cO X scope N' cl C s₂ H₂ fp) [(acc,gh us k)] σ' H' s'/\tn i s'.heap/\(∀ b∈fp,H' b=none)/\W i n ys σ' H') (fun n s3 hI=>?_) m ⟨0,[],[],0,σ,H,.nil,I,st,fr,w0⟩
  obtain ⟨i,ys,us,k,σ3,H3,rv,I3,st3,fr3,w3⟩:=hI
  show wpAny _ X.A ((compTurn (.ListComp elt [⟨tg,iter,ifs,0⟩] scope pos) 0 (.ref it) (.ref acc) (compEnvC scope cl C X.env)).onRaise (fun x=>do noteFrame x (compEnvC scope cl C X.env);theTreesLotGoes x)) _ _ s3
  refine wpAny_noted ?_
  rw [compTurn_list]
  have fpk:∀ {aq:List (Addr×Obj)} {H':Hp},(∀ p∈aq,p.1=acc∨p.1∈([]:List Addr))->(∀ b∈fp,H' b=none)->∀ b∈fp,kE (cO X scope N' cl C s₂ H₂ fp) aq H' b:=fun hp hn b hb=>
   ⟨hn b hb,(hfp b hb).1,(hfp b hb).2.1,.inl hb,(hfp b hb).2.2.1,fun p hp'=>by
    have hp'':p∈([]:List (Addr×Obj))++_:=hp'
    rcases hp p (by simpa using hp'') with z|z
    ·rw [z];exact Ne.symm (hfp b hb).2.2.2
    ·exact (nomatch z)⟩
  have fp1:=fpk (aq:=[(acc,gh us k)]) (fun p hp=>.inl (by simp at hp;rw [hp])) fr3
  refine wpAny_bind (wpAny_standAt (wpAny_bind ?_))
  rcases turn i n ys σ3 H3 w3 with ⟨stop,qn⟩|⟨go,hz,step⟩
  ·refine wpAny_mono (T.done (cO X scope N' cl C s₂ H₂ fp) rfl rfl rfl hcalm i _ s3 σ3 H3 (fun _ _=>False) I3 fp1 st3 stop) (fun r s4 ⟨hr,I4⟩=>?_) (fun _ _ z=>z.elim)
   subst hr
   exact wpAny_pure (hR s4 σ3 H3 ys us k I4 rv qn)
  ·refine wpAny_mono (T.item (cO X scope N' cl C s₂ H₂ fp) rfl rfl rfl hcalm i _ s3 σ3 H3 (fun _ _=>False) I3 fp1 st3 go) (fun r s4 ⟨u,hr,h4⟩=>?_) (fun _ _ z=>z.elim)
   subst hr
   refine wpAny_bind (wpAny_mono h4 (fun _ s5 ⟨x,H5,I5,r5,y5,st5,fr5⟩=>?_) (fun _ _ z=>z.elim))
   have fp5:=fpk (aq:=[(acc,gh us k)]) (fun p hp=>.inl (by simp at hp;rw [hp])) fr5
   have I5':=I5.pinned fp5 (T.obj _ _ st5)
   refine wpAny_bind (wpAny_mono (hg _ s5 σ3 H5 x u _ I5' r5 (step x H5 y5)) (fun _ s6 ⟨σ6,H6,I6,q6⟩=>?_) (fun _ _ z=>z.elim))
   refine wpAny_bind (wpAny_mono (hc _ s6 σ6 H6 _ I6 q6) (fun ok s7 ⟨H7,I7,q7⟩=>?_) (fun _ _ z=>z.elim))
   have again:∀ {s8:Shared} {σ8:St} {H8:Hp} {us8:List Value} {k8:Nat} {ys8:List V},Inv (cO X scope N' cl C s₂ H₂ fp) ([(acc,gh us k)]++oH fp s5.heap) σ8 H8 s8->tn (i+1) s8.heap/\∀ b∈fp,H8 b=none:=fun {s8 σ8 H8 us8 k8 ys8} I8=>
    ⟨T.keep _ _ _ st5 fun b hb o e=>(I8.pin (b,o) (List.mem_append_right _ (List.mem_append_right _ (iU hb e)))).1,fun b hb=>by
     obtain ⟨o,e,d⟩:=T.obj _ _ st5 b hb
     exact (I8.pin (b,o) (List.mem_append_right _ (List.mem_append_right _ (iU hb e)))).2.1⟩
   cases ok with
   | false=>
     rw [if_neg Bool.false_ne_true] at q7
     obtain ⟨m',hm,w7⟩:=q7
     obtain ⟨t1,t2⟩:=again (us8:=us) (k8:=k) (ys8:=ys) I7
     exact wpAny_pure ⟨rfl,m',hm,i+1,ys,us,k,σ6,H7,rv,I7.unpinned,t1,t2,w7⟩
   | true=>
     rw [if_pos rfl] at q7
     refine wpAny_bind (wpAny_bind (wpAny_mono (he _ s7 σ6 H7 _ I7 q7) (fun y s8 ⟨yv,H8,I8,r8,m',hm,w8⟩=>?_) (fun _ _ z=>z.elim)))
     obtain ⟨t1,t2⟩:=again (us8:=us) (k8:=k) (ys8:=ys) I8
     obtain ⟨e8,n8,l8,f8,d8⟩:=I8.pin (acc,gh us k) (List.mem_append_right _ (List.mem_append_left _ List.mem_cons_self))
     have hlen:=rv.length
     have hz':us.toArray.size≤sizeLine:=by rw [List.size_toArray];lia
     refine wpAny_bind (call_meets PySem.F.slot_list_append ⟨_,e8,rfl⟩ PySem.F.entry_list_append (PySem.F.args_list_append_2 _ _) (PySem.list_append acc us.toArray k y hz') ⟨e8,?_⟩)
     have q:=PySem.IsL.update e8 (fun z=>z.push y)
     have I9:Inv (cO X scope N' cl C s₂ H₂ fp) [] σ6 H8 s8:=I8.pins_of fun p hp=>(nomatch hp)
     have I10:=I9.turned (t':=s8.toks) (it:=acc) (h':=s8.heap.update acc (Obj.mapSeq fun z=>z.push y)) (fun b o hb e=>(Heap.get?_update_other s8.heap _ (Ne.symm hb)).trans e) n8 hacc.1 (.inr hacc.2.2.2) hacc.2.2.1 (fun p hp=>(nomatch hp))
     have e':(us.toArray.push y)=(us++[y]).toArray:=by simp
     rw [e'] at q
     obtain ⟨k9,ek⟩:∃ k9,k9=(if ((us++[y]).toArray.size == us.toArray.size)=true then k else k+1):=⟨_,rfl⟩
     rw [← ek] at q
     have I11:=I10.pins_of (pins':=[(acc,gh (us++[y]) k9)]) fun p hp=>by
      obtain rfl:p=(acc,gh (us++[y]) k9):=by simpa using hp
      exact ⟨q,n8,hacc.1,hacc.2.1,fun v z=>by cases z⟩
     refine wpAny_pure (wpAny_pure ⟨rfl,m',hm,i+1,ys++[yv],us++[y],k9,σ6,H8,rv.append (.cons r8 .nil),I11,T.keep _ _ _ t1 fun b hb o e=>?_,t2,w8⟩)
     exact (Heap.get?_update_other s8.heap _ (hfp b hb).2.2.2.symm).trans e
noncomputable def Dq (wi:TI) (g:TG) (tt:TT) (te:TE) (k:Nat) (js:List Nat):TE:=fun σ H Q=>wi σ H fun J H1=>∃ W:Nat->Nat->List V->St->Hp->Prop,(∃ m,W 0 m [] (jg k js σ) H1)/\
 ji J g tt te (fun ys H2=>ys.length≤sizeLine/\∀ p,H2 p=none->Q (.ref p) (upd H2 p (.lst ys))) W
theorem rF {X:Cx} {scope:Scope} {own:List Str} {s:Shared} {tn:Nat->Heap->Prop} {cl:List (Str×Addr)} {F:List V->Hp->Prop} {RR:Value->Addr->Result->Shared->Prop}
 (S:bL X scope own js N') (hcalm:X.calm=true) (hg:∀ cl C s₀ H₀ ex,PG (cO X scope N' cl C s₀ H₀ ex) tg g) (hc:∀ cl C s₀ H₀ ex,xn (cO X scope N' cl C s₀ H₀ ex) ifs tt) (he:∀ cl C s₀ H₀ ex,PE (cO X scope N' cl C s₀ H₀ ex) elt te)
 (hc1:∀ x c,cl.lookup x=some c->X.env.cells.lookup x=some c) (hc2:∀ x,(x,NameKind.free)∈scope.names->∃ c,cl.lookup x=some c)
 (I:Inv X aq σ H s) (T:Turn X.prog X.w X.K tg J fp it tn) (st:tn 0 s.heap) (hf:∀ b∈fp,kE X aq H b) (W:Nat->Nat->List V->St->Hp->Prop) (w0:W 0 m0 [] (jg own.length js σ) H) (turn:ji J g tt te F W)
 (hF:∀ ys H',F ys H'->ys.length≤sizeLine)
 (fin:∀ acc C H' ys s' m,Inv X aq σ (upd H' acc (.lst ys)) s'->H' acc=none->s'.heap.Ns C m->(upd H' acc (.lst ys)) C=none->C≠X.env.locals->X.s₀.heap.objs.size≤C->(∀ x c,X.env.cells.lookup x=some c->c≠C)->(∀ p∈X.pn++aq,p.1≠C)->F ys H'->RR (.ref acc) C (.ok .next) s') :
 wpAny (model X.prog X.w) X.A (newList []) (fun acc s₃=>wpAny (model X.prog X.w) X.A (newFunctionEnv scope X.env.globals cl [] X.env.qual none .none (some X.env)) (fun cenv s₄=>
  codeAny (model X.prog X.w) X.A (.compStart (.ListComp elt [⟨tg,iter,ifs,0⟩] scope pos) 0 (.ref it) acc { cenv with scope:=relabel scope X.env }) (RR acc cenv.locals) s₄) E s₃) E s:=by
 refine wpAny_newObj_type (wpAny_newFunctionEnv S.nocell (by intro y hy;simp at hy) (fun h₁ hns₁ hsb₁=>?_) S.kind)
 dsimp only at hns₁ hsb₁ ⊢
 generalize hH2:s.heap.push { cls:=.type "list",dict:=none,data:=.seq ([]:List Value).toArray }=H2 at hns₁ hsb₁ ⊢
 have hC:H2.objs.size=s.heap.objs.size+1:=by rw [← hH2,Heap.size_push]
 have hDC:s.heap.objs.size≠H2.objs.size:=by rw [hC];exact Nat.ne_of_lt (Nat.lt_succ_self _)
 have hCle:s.heap.objs.size≤H2.objs.size:=by rw [hC];exact Nat.le_succ _
 have below:∀ b,b<s.heap.objs.size->b≠H2.objs.size/\b≠s.heap.objs.size:=fun b hb=>⟨by rw [hC];exact Nat.ne_of_lt (Nat.lt_succ_of_lt hb),Nat.ne_of_lt hb⟩
 have old:∀ b o,s.heap.get? b=some o->h₁.get? b=some o:=fun b o e=>hsb₁.extBut b o (below b (Heap.lt_size e)).1 (Heap.get?_push_of_some _ (hH2 ▸ Heap.get?_push_of_some _ e))
 have hacc:h₁.get? s.heap.objs.size=some (gh [] 0):=hsb₁.extBut _ _ hDC (Heap.get?_push_of_some _ (hH2 ▸ Heap.get?_push_size _ rfl))
 generalize hCn:H2.objs.size=C at *
 generalize hAn:s.heap.objs.size=acc at *
 have cellLt:∀ x c,X.env.cells.lookup x=some c->c<acc:=fun x c e=>by
  obtain ⟨v,q⟩:=I.cell x c e
  rw [← hAn];exact q.lt
 have pinLt:∀ p∈X.pn++aq,p.1<acc:=fun p hp=>by rw [← hAn];exact Heap.lt_size (I.pin p hp).1
 have stkLt:∀ b∈frs X.stack,b<acc:=fun b hb=>by
  obtain ⟨_,o,ho,_⟩:=I.stack.mem hb
  rw [← hAn];exact Heap.lt_size ho
 have fpLt:∀ b∈fp,b<acc:=fun b hb=>by
  obtain ⟨o,e,_⟩:=T.obj _ _ st b hb
  rw [← hAn];exact Heap.lt_size e
 have hHC:H C=none:=I.hok.fresh (by rw [hAn];exact hCle)
 have hHA:H acc=none:=I.hok.fresh (by rw [hAn];exact Nat.le_refl _)
 have I1:Inv (cO X scope N' cl C s H fp) [] (jg own.length js σ) H { s with heap:=h₁,toks:=s.toks+([]:List (Str×Value)).length }:=
  Inv.comp S I hc1 hc2 (by rw [hAn];exact hCle) hns₁ old (fun b hb=>⟨hf b hb,by rw [hAn];exact fpLt b hb⟩) hHC fun b o e=>(below b (by rw [← hAn];exact Heap.lt_size e)).1
 have I2:Inv (cO X scope N' cl C s H fp) [(acc,gh [] 0)] (jg own.length js σ) H { s with heap:=h₁,toks:=s.toks+([]:List (Str×Value)).length }:=I1.pins_of fun p hp=>by
  obtain rfl:p=(acc,gh [] 0):=by simpa using hp
  exact ⟨hacc,hHA,hDC,fun z=>absurd (stkLt acc z) (Nat.lt_irrefl _),fun v z=>by cases z⟩
 have st1:tn 0 h₁:=T.keep _ _ _ st fun b hb o e=>old b o e
 have loop:∀ s₃:Shared,s₃={ s with heap:=h₁,toks:=s.toks+([]:List (Str×Value)).length }->
  codeAny (model X.prog X.w) X.A (.compLoop (.ListComp elt [⟨tg,iter,ifs,0⟩] scope pos) 0 (.ref it) (.ref acc) (compEnvC scope cl C X.env)) (RR (.ref acc) C) s₃:=by
  rintro s₃ rfl
  refine wR W turn T (hg _ _ _ _ _) (hc _ _ _ _ _) (he _ _ _ _ _) hcalm
   (fun b hb=>⟨(below b (fpLt b hb)).1,fun z=>?_,fun x c e z=>(hf b hb).2.2.2.2.1 x c (hc1 x c e) z,(below b (fpLt b hb)).2⟩)
   ⟨hDC,fun z=>absurd (stkLt acc z) (Nat.lt_irrefl _),fun x c e z=>absurd (cellLt x c (hc1 x c e)) (by rw [z];exact Nat.lt_irrefl _),by rw [hAn];exact Nat.le_refl _⟩ ?_ I2 st1 (fun b hb=>(hf b hb).1) w0
  ·rcases List.mem_cons.mp (I.stkSub b z) with q|q
   ·exact (hf b hb).2.1 q
   ·exact (hf b hb).2.2.1 q
  ·intro s' σ' H' ys us k J' rv q
   obtain ⟨e',n',l',f',d'⟩:=J'.pin (acc,gh us k) (List.mem_append_right _ List.mem_cons_self)
   have n'':H' acc=none:=n'
   obtain ⟨m,hm,_⟩:=J'.loc
   have oldLt:∀ b o,s.heap.get? b=some o->b<acc:=fun b o e=>by rw [← hAn];exact Heap.lt_size e
   have neA:∀ b o,s.heap.get? b=some o->b≠acc:=fun b o e=>Nat.ne_of_lt (oldLt b o e)
   have un:Un (frs X.stack) fp H (upd H' acc (.lst ys)) s.heap s'.heap:=⟨J'.base.keep,J'.base.slot,fun b o e n hx=>by rw [aX (neA b o e)];exact J'.base.free b o e n hx,J'.base.there,
    fun b xs e=>by
     have z:=J'.base.tups b xs e
     rw [aX (aR z n'')];exact z,
    fun b o u e=>by
     have z:=J'.base.frzs b o u e
     rw [aX (aR z n'')];exact z,
    fun b ps e=>by
     obtain ⟨more,z⟩:=J'.base.tbls b ps e
     exact ⟨more,by rw [aX (aR z n'')];exact z⟩⟩
   have hok:jW X.prog X.w (upd H' acc (.lst ys)) s'.heap:=fun b u e=>by
    by_cases hb:b=acc
    ·subst hb
     rw [au] at e;cases e
     exact ⟨hF _ _ q,us,k,rv,e'⟩
    ·rw [aX hb] at e
     exact (J'.hok b u e).stay (fun c v _ z=>z) (fun c z=>by rw [aX (aR z n'')];exact z) fun c xs z=>by rw [aX (aR z n'')];exact z
   have IX:Inv X aq σ (upd H' acc (.lst ys)) s':=I.call' J'.os un hok J'.bare fun b hb=>⟨(hf b hb).2.2.2.1,(hf b hb).2.1,(hf b hb).2.2.2.2.1,(hf b hb).2.2.2.2.2⟩
   refine fin acc C H' ys s' m IX n'' hm ?_ ?_ ?_ ?_ ?_ q
   ·rw [aX (Ne.symm hDC)];exact J'.free
   ·exact Nat.ne_of_gt (Nat.lt_of_lt_of_le I.lt (by rw [hAn];exact hCle))
   ·exact Nat.le_trans I.sz (by rw [hAn];exact hCle)
   ·exact fun x c e z=>absurd (Nat.lt_of_lt_of_le (cellLt x c e) hCle) (by rw [z];exact Nat.lt_irrefl _)
   ·exact fun p hp z=>absurd (Nat.lt_of_lt_of_le (pinLt p hp) hCle) (by rw [z];exact Nat.lt_irrefl _)
 exact codeAny_compStart_list (loop _ rfl) (T.self _ 0 _ _ _ st1 (loop _ rfl))
theorem gR (S:bL X scope own js N') (hcalm:X.calm=true) (hi:PI X tg iter wi) (hg:∀ cl C s₀ H₀ ex,PG (cO X scope N' cl C s₀ H₀ ex) tg g) (hc:∀ cl C s₀ H₀ ex,xn (cO X scope N' cl C s₀ H₀ ex) ifs tt)
 (he:∀ cl C s₀ H₀ ex,PE (cO X scope N' cl C s₀ H₀ ex) elt te) (hs:∀ x,foldedSetIterable iter X.env x=pure x:=by intro _;rfl):PE X (.ListComp elt [⟨tg,iter,ifs,0⟩] scope pos) (Dq wi g tt te own.length js):=by
 intro aq s σ H Q I h
 obtain ⟨cl,hcl,hc1,hc2⟩:=oM (env:=X.env) scope fun y hy hk=>I.ok.has y.1 (S.free y hy hk)
 rw [eval_ListComp]
 refine wpAny_comprehension_free (use:=none) rfl hs hcl S.kind S.names (cI (hi aq s σ H _ I h) fun v s1 h1=>cI h1 fun itv s2 h2=>?_)
 obtain ⟨it,fp,tn,J,H2,e,I2,T,st2,f2,W,⟨m0,w0⟩,turn⟩:=h2
 subst e
 refine rF (RR:=fun acc C=>compPost (model X.prog X.w) X.A X.xe none (EP X aq σ Q) acc C) S hcalm hg hc he hc1 hc2 I2 T st2 f2 W w0 turn (fun ys H' q=>q.1) ?_
 intro acc C H' ys s' m IX na hm hCn hL hz hcn hpn q
 refine ⟨m,hm,fun h' hs'=>⟨.ref acc,_,?_,rfl,q.2 acc na⟩⟩
 exact IX.turned (t':=s'.toks) (it:=C) (fun b o hb e=>(hs'.2 b hb).trans e) hCn hL (.inr hz) hcn hpn
theorem eY (S:bL X scope own js N') (hcalm:X.calm=true) (hN:X.N.Nodup) (hx:X.N[i]?=some x) (hk:X.env.scope.names.lookup x=some .local) (hi:PI X tg iter wi) (hg:∀ cl C s₀ H₀ ex,PG (cO X scope N' cl C s₀ H₀ ex) tg g) (hc:∀ cl C s₀ H₀ ex,xn (cO X scope N' cl C s₀ H₀ ex) ifs tt)
 (he:∀ cl C s₀ H₀ ex,PE (cO X scope N' cl C s₀ H₀ ex) elt te) (hsw:swapsWith (.ListComp elt [⟨tg,iter,ifs,0⟩] scope pos) (some (.Name x pos')) spos.line X.env=pure true:=by rfl) (hs:∀ x,foldedSetIterable iter X.env x=pure x:=by intro _;rfl) :
 PS X (.Assign [.Name x pos'] (.ListComp elt [⟨tg,iter,ifs,0⟩] scope pos) spos) (Hm (Dq wi g tt te own.length js) (bG i)):=by
 intro aq s σ H D I h
 obtain ⟨cl,hcl,hc1,hc2⟩:=oM (env:=X.env) scope fun y hy hk=>I.ok.has y.1 (S.free y hy hk)
 rw [exec_Assign_Name_used _ _ _ _ hsw]
 refine wpAny_bind (wpAny_standAt (wpAny_bind ?_))
 show wpAny _ X.A (do let _ ← comprehension (.ListComp elt [⟨tg,iter,ifs,0⟩] scope pos) scope X.env _ (newList []) false (eval iter X.env) (some (assign (.Name x pos') X.env))) _ _ s
 refine wpAny_bind (wpAny_mono (wpAny_comprehension_free (use:=some (assign (.Name x pos') X.env)) (Q:=fun _ s'=>SP X aq D .next s') rfl hs hcl S.kind S.names
  (cI (hi aq s σ H _ I h) fun v s1 h1=>cI h1 fun itv s2 h2=>?_)) (fun _ s' hq=>wpAny_pure (wpAny_pure hq)) fun _ _ e=>e)
 obtain ⟨it,fp,tn,J,H2,e,I2,T,st2,f2,W,⟨m0,w0⟩,turn⟩:=h2
 subst e
 refine rF (RR:=fun acc C=>compPost (model X.prog X.w) X.A X.xe (some (assign (.Name x pos') X.env)) (fun _ s'=>SP X aq D .next s') acc C) S hcalm hg hc he hc1 hc2 I2 T st2 f2 W w0 turn (fun ys H' q=>q.1) ?_
 intro acc C H' ys s' m IX na hm hCn hL hz hcn hpn q
 show wpAny _ X.A (assign (.Name x pos') X.env (.ref acc)) _ _ s'
 refine wpAny_assign_Name (pC IX hN hx (.inl hk) (v:=.ref acc) rfl (fun s'' I'' hsb=>?_) (.inr hk))
 obtain ⟨a,hsb,ha⟩:=hsb
 have haC:C≠a:=by
  rcases ha with z|z
  ·rw [z];exact hL
  ·exact fun q=>hcn x a z q.symm
 refine ⟨m,hm.sameBut hsb haC,fun h' hs'=>⟨_,_,?_,q.2 acc na⟩⟩
 exact I''.turned (t':=s''.toks) (it:=C) (fun b o hb e=>(hs'.2 b hb).trans e) hCn hL (.inr hz) hcn hpn
section
variable {X:Cx}
noncomputable def K7 (i j:Int):Prop:=0<j/\j<340282366920938463463374607431768211456
theorem zJ:iI X (binaryOp .FloorDiv) (rI K7 fun i j=>.int (i / j)):=Le fun i j _ _ _ _ _ hc q=>by
 rw [← Int.fdiv_eq_ediv_of_nonneg i (Int.le_of_lt hc.1)] at q
 have h1:(0:Int)<j:=hc.1
 have h2:j<340282366920938463463374607431768211456:=hc.2
 have hb:j.natAbs<340282366920938463463374607431768211456:=by lia
 have he:(2:Nat) ^ 128=340282366920938463463374607431768211456:=by ext
 have hl:j.natAbs.log2<128:=(Nat.log2_lt (by lia)).mpr (Nat.lt_of_lt_of_eq hb he.symm)
 exact floordiv_int (by have:=hc.1;lia) q (.inl (PyProof.noPylong_of_log2 (by lia)))
theorem jY {lo:Int} {n:Nat} {g:TG} {te:TE} {F:List V->Hp->Prop} {σ0:St} {H0:Hp} (Pv:Nat->List V->St->Hp->Prop) (hn:n≤sizeLine) (h0:Pv 0 [] σ0 H0)
 (hs:∀ i ys σ H,i<n->ys.length=i->Pv i ys σ H->∀ N:List V->St->Hp->Prop,(∀ ys' σ' H',ys'.length=i+1->Pv (i+1) ys' σ' H'->N ys' σ' H')->g (.int (lo+i)) σ H fun σ2 H2=>te σ2 H2 fun y H3=>N (ys++[y]) σ2 H3)
 (hd:∀ ys σ H,ys.length=n->Pv n ys σ H->F ys H) :
 ∃ W:Nat->Nat->List V->St->Hp->Prop,(∃ m,W 0 m [] σ0 H0)/\ji (De lo n) g wM te F W:=by
 refine ⟨fun i m ys σ H=>m=n-i/\i≤n/\ys.length=i/\Pv i ys σ H,⟨n,by simp,Nat.zero_le _,rfl,h0⟩,?_⟩
 rintro i m ys σ H ⟨rfl,hi,hl,p⟩
 by_cases hlt:i<n
 ·refine .inr ⟨hlt,by lia,fun x H' y=>?_⟩
  obtain ⟨e,y⟩:=y
  subst e y
  exact hs i ys σ _ hlt hl p (fun ys' σ' H'=>∃ m',m'<n-i/\m'=n-(i+1)/\i+1≤n/\ys'.length=i+1/\Pv (i+1) ys' σ' H') fun ys' σ' H' hl' q=>⟨n-(i+1),by lia,rfl,hlt,hl',q⟩
 ·have e:i=n:=by lia
  subst e
  exact .inl ⟨Nat.le_refl _,hd ys σ H hl p⟩
theorem lZ {K:PySem.W.Frag} {a:Addr} {xs:List V} {g:TG} {te:TE} {F:List V->Hp->Prop} {σ0:St} {H0:Hp} (Pv:Nat->List V->St->Hp->Prop) (hn:xs.length≤sizeLine) (h0:Pv 0 [] σ0 H0) (hq:∀ i ys σ H,i≤xs.length->Pv i ys σ H->bF K H a xs)
 (hs:∀ i x ys σ H,xs[i]?=some x->ys.length=i->Pv i ys σ H->∀ N:List V->St->Hp->Prop,(∀ ys' σ' H',ys'.length=i+1->Pv (i+1) ys' σ' H'->N ys' σ' H')->g x σ H fun σ2 H2=>te σ2 H2 fun y H3=>N (ys++[y]) σ2 H3)
 (hd:∀ ys σ H,ys.length=xs.length->Pv xs.length ys σ H->F ys H) :
 ∃ W:Nat->Nat->List V->St->Hp->Prop,(∃ m,W 0 m [] σ0 H0)/\ji (Hy K a) g wM te F W:=by
 refine ⟨fun i m ys σ H=>m=xs.length-i/\i≤xs.length/\ys.length=i/\Pv i ys σ H,⟨xs.length,by simp,Nat.zero_le _,rfl,h0⟩,?_⟩
 rintro i m ys σ H ⟨rfl,hi,hl,p⟩
 have q:=hq i ys σ H hi p
 by_cases hlt:i<xs.length
 ·refine .inr ⟨⟨xs,xs[i],q,by simp [hlt]⟩,by lia,fun x H' y=>?_⟩
  obtain ⟨e,y⟩:=y
  subst e
  exact hs i x ys σ _ (y xs q) hl p (fun ys' σ' H'=>∃ m',m'<xs.length-i/\m'=xs.length-(i+1)/\i+1≤xs.length/\ys'.length=i+1/\Pv (i+1) ys' σ' H') fun ys' σ' H' hl' q=>⟨xs.length-(i+1),by lia,rfl,hlt,hl',q⟩
 ·have e:i=xs.length:=by lia
  subst e
  exact .inl ⟨⟨xs,q,Nat.le_refl _⟩,hd ys σ H hl p⟩
theorem jn {K:PySem.W.Frag} {a:Addr} {xs:List V} {g:TG} {te:TE} {F:List V->Hp->Prop} {σ0:St} {H0:Hp} (Pv:Nat->List V->St->Hp->Prop) (hn:xs.length≤sizeLine) (h0:Pv 0 [] σ0 H0) (hq:∀ i ys σ H,i≤xs.length->Pv i ys σ H->bD K H a xs)
 (hs:∀ i x ys σ H,xs[i]?=some x->ys.length=i->Pv i ys σ H->∀ N:List V->St->Hp->Prop,(∀ ys' σ' H',ys'.length=i+1->Pv (i+1) ys' σ' H'->N ys' σ' H')->g x σ H fun σ2 H2=>te σ2 H2 fun y H3=>N (ys++[y]) σ2 H3)
 (hd:∀ ys σ H,ys.length=xs.length->Pv xs.length ys σ H->F ys H) :
 ∃ W:Nat->Nat->List V->St->Hp->Prop,(∃ m,W 0 m [] σ0 H0)/\ji (Fz K a) g wM te F W:=by
 refine ⟨fun i m ys σ H=>m=xs.length-i/\i≤xs.length/\ys.length=i/\Pv i ys σ H,⟨xs.length,by simp,Nat.zero_le _,rfl,h0⟩,?_⟩
 rintro i m ys σ H ⟨rfl,hi,hl,p⟩
 have q:=hq i ys σ H hi p
 by_cases hlt:i<xs.length
 ·refine .inr ⟨⟨xs,xs[i],q,by simp [hlt]⟩,by lia,fun x H' y=>?_⟩
  obtain ⟨e,y⟩:=y
  subst e
  exact hs i x ys σ _ (y xs q) hl p (fun ys' σ' H'=>∃ m',m'<xs.length-i/\m'=xs.length-(i+1)/\i+1≤xs.length/\ys'.length=i+1/\Pv (i+1) ys' σ' H') fun ys' σ' H' hl' q=>⟨xs.length-(i+1),by lia,rfl,hlt,hl',q⟩
 ·have e:i=xs.length:=by lia
  subst e
  exact .inl ⟨⟨xs,q,Nat.le_refl _⟩,hd ys σ H hl p⟩
structure cj (K:PySem.W.Frag) (mg:Str->Option Value) (x:Str) (st:Stmt) (ps:List Str) (f:Addr) (fd:FuncData):Prop where
 F:fc K x x st f fd
 mg:mg x=some (.ref f)
 b:Binds K fd ps []
noncomputable def bW (p:Addr) (H H':Hp):Prop:=∀ b o,H b=some o->b≠p->H' b=some o
theorem bW.refl:bW p H H:=fun _ _ h _=>h
theorem bW.trans (a:bW p H H1) (b:bW p H1 H2):bW p H H2:=fun c o h hc=>b c o (a c o h hc) hc
theorem bW.upd:bW p H (upd H p o):=fun b u h hb=>by rw [aX hb];exact h
theorem bW.new (h:H q=none):bW p H (L2.upd H q o):=fun b u e _=>by rw [aX (aR e h)];exact e
end
theorem eU (M:St->Hp->Prop) (h2:∀ σ' H',M σ' H'->u D σ' H') (h1:∀ N:St->Hp->Prop,(∀ σ' H',M σ' H'->N σ' H')->t { D with nx:=N } σ H):Hz t u D σ H:=h1 (u D) h2
theorem aC.new (h:H q=none):aC H (upd H q o):=fun b u e=>by rw [aX (aR e h)];exact e
theorem aC.but (h:aC H H'):bW p H H':=fun b o e _=>h b o e
theorem aC.tup {K:PySem.W.Frag} {H H':Hp} {a:Addr} {xs:List V} (e:aC H H') (h:bD K H a xs):bD K H' a xs:=by
 rcases h with (h|⟨o,h⟩)|h
 ·exact .inl (.inl (e _ _ h))
 ·exact .inl (.inr ⟨o,e _ _ h⟩)
 ·exact .inr h
theorem bH:bootBuiltins "len" = some (.builtin "len"):=by ext
theorem lg:bootBuiltins "list" = some (.type "list"):=by ext
theorem fu:bootBuiltins "tuple" = some (.type "tuple"):=by ext
theorem nM:bootBuiltins "str" = some (.type "str"):=by ext
theorem jX:bootBuiltins "int" = some (.type "int"):=by ext
theorem gk:bootBuiltins "bool" = some (.type "bool"):=by ext
theorem z7:bootBuiltins "min" = some (.builtin "min"):=by ext
theorem yJ:bootBuiltins "max" = some (.builtin "max"):=by ext
theorem Cy:bootBuiltins "repr" = some (.builtin "repr"):=by ext
theorem qC:bootBuiltins "all" = some (.builtin "all"):=by ext
theorem Fl:bootBuiltins "any" = some (.builtin "any"):=by ext
theorem aV:bootBuiltins "isinstance" = some (.builtin "isinstance"):=by ext
theorem yw:bootBuiltins "sum" = some (.builtin "sum"):=by ext
end L2
namespace L2
open PySem PySem.Spec PyProof.Rows PySem.SeqAt
mutual
inductive Rep (K:PySem.W.Frag) (H:Hp):V->PyData->Prop
 |non:Rep K H .non .none
 |bl (b:Bool):Rep K H (.bl b) (.bool b)
 |int (i:Int):Rep K H (.int i) (.int i)
 |str (x:Str):Rep K H (.str x) (.str x)
 |tup {a:Addr} {xs:List V} {ds:List PyData}:bD K H a xs->bj K H xs ds->Rep K H (.ref a) (.tuple ds)
 |lst {a:Addr} {xs:List V} {ds:List PyData}:bF K H a xs->bj K H xs ds->Rep K H (.ref a) (.list ds)
inductive bj (K:PySem.W.Frag) (H:Hp):List V->List PyData->Prop
 |nil:bj K H [] []
 |cons {x:V} {d:PyData} {xs:List V} {ds:List PyData}:Rep K H x d->bj K H xs ds->bj K H (x::xs) (d::ds)
end
section
variable {K:PySem.W.Frag} {H H':Hp}
theorem bj.length:∀ {xs:List V} {ds:List PyData},bj K H xs ds->xs.length=ds.length
 |_,_,.nil=>rfl
 |_,_,.cons _ t=>by rw [List.length_cons,List.length_cons,bj.length t]
mutual
theorem Rep.map (f1:∀ a xs,bD K H a xs->bD K H' a xs) (f2:∀ a xs,bF K H a xs->bF K H' a xs):∀ {v:V} {d:PyData},Rep K H v d->Rep K H' v d
 |_,_,.non=>.non
 |_,_,.bl b=>.bl b
 |_,_,.int i=>.int i
 |_,_,.str x=>.str x
 |_,_,.tup h r=>.tup (f1 _ _ h) (bj.map f1 f2 r)
 |_,_,.lst h r=>.lst (f2 _ _ h) (bj.map f1 f2 r)
theorem bj.map (f1:∀ a xs,bD K H a xs->bD K H' a xs) (f2:∀ a xs,bF K H a xs->bF K H' a xs):∀ {v:List V} {d:List PyData},bj K H v d->bj K H' v d
 |_,_,.nil=>.nil
 |_,_,.cons h r=>.cons (Rep.map f1 f2 h) (bj.map f1 f2 r)
end
theorem Rep.same (h:Rep K H v d) (e:aC H H'):Rep K H' v d:=h.map (fun _ _ z=>e.tup z) (fun _ _ z=>e.seq z)
theorem bj.same (h:bj K H v d) (e:aC H H'):bj K H' v d:=h.map (fun _ _ z=>e.tup z) (fun _ _ z=>e.seq z)
theorem bW.seq (e:bW p H H') (hp:H p=some (.dK kvs)) (h:bF K H a xs):bF K H' a xs:=by
 rcases h with (h|⟨o,h⟩)|h
 ·exact .inl (.inl (e _ _ h (gw h hp (by intro z;cases z))))
 ·exact .inl (.inr ⟨o,e _ _ h (gw h hp (by intro z;cases z))⟩)
 ·exact .inr h
theorem bW.tup (e:bW p H H') (hp:H p=some (.dK kvs)) (h:bD K H a xs):bD K H' a xs:=by
 rcases h with (h|⟨o,h⟩)|h
 ·exact .inl (.inl (e _ _ h (gw h hp (by intro z;cases z))))
 ·exact .inl (.inr ⟨o,e _ _ h (gw h hp (by intro z;cases z))⟩)
 ·exact .inr h
theorem Rep.but (h:Rep K H v d) (e:bW p H H') (hp:H p=some (.dK kvs)):Rep K H' v d:=h.map (fun _ _ z=>e.tup hp z) (fun _ _ z=>e.seq hp z)
theorem bj.but (h:bj K H v d) (e:bW p H H') (hp:H p=some (.dK kvs)):bj K H' v d:=h.map (fun _ _ z=>e.tup hp z) (fun _ _ z=>e.seq hp z)
theorem bj.get:∀ {xs:List V} {ds:List PyData} {i:Nat} {d:PyData},bj K H xs ds->ds[i]?=some d->∃ x,xs[i]?=some x/\Rep K H x d
 |_,_,_,_,.nil,e=>by simp at e
 |_,_,0,_,.cons r _,e=>by simp at e;subst e;exact ⟨_,rfl,r⟩
 | _,_,i+1,d,.cons _ t,e=>by
   obtain ⟨u,h1,h2⟩:=bj.get (i:=i) (d:=d) t (by simpa using e)
   exact ⟨u,by simpa using h1,h2⟩
theorem bj.get':∀ {xs:List V} {ds:List PyData} {i:Nat} {x:V},bj K H xs ds->xs[i]?=some x->∃ d,ds[i]?=some d/\Rep K H x d
 |_,_,_,_,.nil,e=>by simp at e
 |_,_,0,_,.cons r _,e=>by simp at e;subst e;exact ⟨_,rfl,r⟩
 | _,_,i+1,d,.cons _ t,e=>by
   obtain ⟨u,h1,h2⟩:=bj.get' (i:=i) (x:=d) t (by simpa using e)
   exact ⟨u,by simpa using h1,h2⟩
end
section
variable {X:Cx} {aq:List (Addr×Obj)} {σ:St} {H:Hp} {s:Shared}
mutual
theorem Inv.reads (I:Inv X aq σ H s):∀ {v:V} {d:PyData} {u:Value},Rep X.K H v d->RelV v u->∃ as,Reads s.heap u d as
 |_,_,u,.non,r=>by cases (show u=Value.none from r);exact ⟨[],.none⟩
 |_,_,u,.bl b,r=>by cases (show u=Value.bool b from r);exact ⟨[],.bool b⟩
 |_,_,u,.int i,r=>by obtain ⟨t,rfl⟩:=r;exact ⟨[],.int i t⟩
 |_,_,u,.str x,r=>by obtain ⟨t,rfl⟩:=r;exact ⟨[],.str x t⟩
 | _,_,u,.tup h rs,r=>by
   cases (show u=Value.ref _ from r)
   obtain ⟨its,rv,⟨o,e,c,n,hd⟩,_⟩:=I.tuple h
   obtain ⟨as,ra⟩:=Inv.readsAll I rs rv
   exact ⟨as,.tuple e c hd (by simpa using ra)⟩
 | _,_,u,.lst h rs,r=>by
   cases (show u=Value.ref _ from r)
   obtain ⟨its,rv,⟨o,n,e,c,_,hd⟩,_⟩:=I.list h
   obtain ⟨as,ra⟩:=Inv.readsAll I rs rv
   exact ⟨_,.list e c hd (by simpa using ra)⟩
theorem Inv.readsAll (I:Inv X aq σ H s):∀ {vs:List V} {ds:List PyData} {us:List Value},bj X.K H vs ds->Vals vs us->∃ as,ReadsAll s.heap us ds as
 |_,_,_,.nil,.nil=>⟨[],.nil⟩
 | _,_,_,.cons h hs,.cons r rs=>by
   obtain ⟨as,a⟩:=Inv.reads I h r
   obtain ⟨bs,b⟩:=Inv.readsAll I hs rs
   exact ⟨as++bs,.cons a b⟩
end
end
mutual
noncomputable def bV:PyData->PyData->Bool
 |.none,.none=>true
 |.bool a,.bool b=>a == b
 |.bool a,.int b=>(if a then 1 else 0) == b
 |.int a,.bool b=>a == (if b then 1 else 0)
 |.int a,.int b=>a == b
 |.str a,.str b=>a == b
 |.tuple a,.tuple b=>cZ a b
 |.list a,.list b=>cZ a b
 |_,_=>false
noncomputable def cZ:List PyData->List PyData->Bool
 |[],[]=>true
 |a::r,b::t=>bV a b && cZ r t
 |_,_=>false
end
theorem pL:∀ (ds es:List PyData),cZ ds es=((List.range (min ds.length es.length)).all (fun j=>bV (ds.getD j .none) (es.getD j .none)) && ds.length == es.length)
 |[],[]=>by simp [cZ]
 |[],_::_=>by simp [cZ]
 |_::_,[]=>by simp [cZ]
 | a::r,b::t=>by
   rw [cZ,pL r t,List.length_cons,List.length_cons,Nat.succ_min_succ,List.range_succ_eq_map,List.all_cons,List.all_map]
   simp only [List.getD_cons_zero,Bool.and_assoc]
   congr 1
   have e:(r.length+1 == t.length+1)=(r.length == t.length):=by
    rw [Bool.eq_iff_iff];simp
   rw [e]
   congr 1
mutual
noncomputable def bI:PyData->Nat
 |.tuple xs=>bB xs+1
 |.list xs=>bB xs+1
 |_=>0
noncomputable def bB:List PyData->Nat
 |[]=>0
 |d::r=>max (bI d) (bB r)
end
section
variable {X:Cx} {aq:List (Addr×Obj)} {σ:St} {H:Hp} {s:Shared}
mutual
theorem Rep.fn (I:Inv X aq σ H s):∀ {v:V} {d e:PyData} {u:Value},Rep X.K H v d->Rep X.K H v e->RelV v u->d=e/\bV d d=true
 |_,_,_,_,.non,.non,_=>⟨rfl,rfl⟩
 |_,_,_,_,.bl b,.bl _,_=>⟨rfl,by simp [bV]⟩
 |_,_,_,_,.int i,.int _,_=>⟨rfl,by simp [bV]⟩
 |_,_,_,_,.str x,.str _,_=>⟨rfl,by simp [bV]⟩
 | _,_,_,_,.tup h1 r1,.tup h2 r2,r=>by
   have e:=I.tuple_inj h1 h2
   subst e
   obtain ⟨its,rv,_,_⟩:=I.tuple h1
   obtain ⟨e,q⟩:=bj.fn I r1 r2 rv
   exact ⟨by rw [e],q⟩
 | _,_,_,_,.lst h1 r1,.lst h2 r2,r=>by
   have e:=I.list_inj h1 h2
   subst e
   obtain ⟨its,rv,_,_⟩:=I.list h1
   obtain ⟨e,q⟩:=bj.fn I r1 r2 rv
   exact ⟨by rw [e],q⟩
 | _,_,_,_,.tup h1 _,.lst h2 _,r=>by
   obtain ⟨_,_,⟨o,e1,c1,_⟩,_⟩:=I.tuple h1
   obtain ⟨_,_,⟨o',n,e2,c2,_⟩,_⟩:=I.list h2
   rw [e1] at e2;cases e2
   rw [c1] at c2;injection c2 with z;exact absurd z (by decide)
 | _,_,_,_,.lst h2 _,.tup h1 _,r=>by
   obtain ⟨_,_,⟨o,e1,c1,_⟩,_⟩:=I.tuple h1
   obtain ⟨_,_,⟨o',n,e2,c2,_⟩,_⟩:=I.list h2
   rw [e1] at e2;cases e2
   rw [c1] at c2;injection c2 with z;exact absurd z (by decide)
theorem bj.fn (I:Inv X aq σ H s):∀ {v:List V} {d e:List PyData} {u:List Value},bj X.K H v d->bj X.K H v e->Vals v u->d=e/\cZ d d=true
 |_,_,_,_,.nil,.nil,_=>⟨rfl,rfl⟩
 | _,_,_,_,.cons a b,.cons c d,.cons r rs=>by
   obtain ⟨e1,q1⟩:=Rep.fn I a c r
   obtain ⟨e2,q2⟩:=bj.fn I b d rs
   exact ⟨by rw [e1,e2],by simp [cZ,q1,q2]⟩
end
theorem vB {ds es:List PyData} {us xs:List Value} {A:Around} (rs1:bj X.K H vs ds) (rs2:bj X.K H ws es) (rv1:Vals vs us) (rv2:Vals ws xs) :
 ((List.range (min us.toArray.size xs.toArray.size)).all (fun j=>bV (ds.getD j .none) (es.getD j .none)) && us.toArray.size == xs.toArray.size)=cZ ds es:=by
 rw [pL,List.size_toArray,List.size_toArray,← rv1.length,← rv2.length,rs1.length,rs2.length]
theorem PL {ds es:List PyData} {us xs:List Value} {A:Around} (rs1:bj X.K H vs ds) (rs2:bj X.K H ws es) (rv1:Vals vs us) (rv2:Vals ws xs) (p1:IsTup s.heap l us.toArray) (p2:IsTup s.heap b xs.toArray) (hu:A.units<cLine)
 (he:∀ j (h1:j<us.length) (h2:j<xs.length),EqAt A.in1 s us[j] xs[j] (bV (ds.getD j .none) (es.getD j .none))):RcAt A s (.ref l) (.ref b) (bV (.tuple ds) (.tuple es)):=by
 show RcAt A s (.ref l) (.ref b) (cZ ds es)
 rw [← vB (A:=A) rs1 rs2 rv1 rv2]
 exact RcAt.tuples (show s.heap.IsTuple l us.toArray from p1) (show s.heap.IsTuple b xs.toArray from p2) hu fun j h1 h2=>by simpa using he j (by simpa using h1) (by simpa using h2)
theorem Px {ds es:List PyData} {us xs:List Value} {A:Around} (rs1:bj X.K H vs ds) (rs2:bj X.K H ws es) (rv1:Vals vs us) (rv2:Vals ws xs) (p1:s.heap.IsList l us.toArray) (p2:s.heap.IsList b xs.toArray) (hu:A.units<cLine)
 (he:∀ j (h1:j<us.length) (h2:j<xs.length),EqAt A.in1 s us[j] xs[j] (bV (ds.getD j .none) (es.getD j .none))):RcAt A s (.ref l) (.ref b) (bV (.list ds) (.list es)):=by
 show RcAt A s (.ref l) (.ref b) (cZ ds es)
 have q:=vB (A:=A) rs1 rs2 rv1 rv2
 by_cases hz:us.toArray.size=xs.toArray.size
 ·rw [← q,hz,Nat.min_self,beq_self_eq_true,Bool.and_true,← hz]
  exact RcAt.lists p1 p2 hz hu fun j h1 h2=>by simpa using he j (by simpa using h1) (by simpa using h2)
 ·have e:cZ ds es=false:=by
   rw [← q]
   have:(us.toArray.size == xs.toArray.size)=false:=by simpa using hz
   rw [this,Bool.and_false]
  rw [e]
  exact RcAt.lists_lengths p1 p2 (by simpa using hz) hu
theorem eqT (I:Inv X aq σ H s) (h1:bD X.K H l vs) (h2:bD X.K H b ws) (rs1:bj X.K H vs ds) (rs2:bj X.K H ws es) (rv1:Vals vs us) (rv2:Vals ws xs) (p1:IsTup s.heap l us.toArray) (p2:IsTup s.heap b xs.toArray) (hu:A.units<cLine)
 (he:∀ j (h1:j<us.length) (h2:j<xs.length),EqAt A.in1 s us[j] xs[j] (bV (ds.getD j .none) (es.getD j .none))):EqAt A s (.ref l) (.ref b) (bV (.tuple ds) (.tuple es)):=by
 by_cases hlb:l=b
 ·subst hlb
  obtain ⟨e,q⟩:=Rep.fn I (.tup h1 rs1) (.tup h2 rs2) (u:=.ref l) rfl
  rw [← e,q]
  exact EqAt.same _
 ·exact EqAt.of_refs hlb (PL rs1 rs2 rv1 rv2 p1 p2 hu he)
theorem Qa (I:Inv X aq σ H s) (h1:bF X.K H l vs) (h2:bF X.K H b ws) (rs1:bj X.K H vs ds) (rs2:bj X.K H ws es) (rv1:Vals vs us) (rv2:Vals ws xs) (p1:s.heap.IsList l us.toArray) (p2:s.heap.IsList b xs.toArray) (hu:A.units<cLine)
 (he:∀ j (h1:j<us.length) (h2:j<xs.length),EqAt A.in1 s us[j] xs[j] (bV (ds.getD j .none) (es.getD j .none))):EqAt A s (.ref l) (.ref b) (bV (.list ds) (.list es)):=by
 by_cases hlb:l=b
 ·subst hlb
  obtain ⟨e,q⟩:=Rep.fn I (.lst h1 rs1) (.lst h2 rs2) (u:=.ref l) rfl
  rw [← e,q]
  exact EqAt.same _
 ·exact EqAt.of_refs hlb (Px rs1 rs2 rv1 rv2 p1 p2 hu he)
theorem dJ {A:Around} (h:A.units+n<cLine):A.units<cLine:=by lia
theorem hu0 {A:Around} (h:A.units+(n+1)<cLine):A.units<cLine:=by lia
theorem hu1 {A:Around} (h:A.units+(n+1)<cLine):A.in1.units+n<cLine:=by show A.units+1+n<cLine;lia
mutual
theorem Ed (I:Inv X aq σ H s):∀ {v w:V} {d e:PyData} {u x:Value} {A:Around},Rep X.K H v d->Rep X.K H w e->RelV v u->RelV w x->A.units+bI d<cLine->EqAt A s u x (bV d e)
 | _,_,_,_,u,x,A,.non,.non,r1,r2,hu=>by
   cases (show u=Value.none from r1)
   cases (show x=Value.none from r2)
   exact EqAt.same _
 | _,_,_,_,u,x,A,.non,.bl b2,r1,r2,hu=>by
   cases (show u=Value.none from r1)
   cases (show x=Value.bool b2 from r2)
   exact EqAt.none_bool b2
 | _,_,_,_,u,x,A,.non,.int i2,r1,r2,hu=>by
   cases (show u=Value.none from r1)
   obtain ⟨t2,e2⟩:=(show ∃ t,x=Value.int i2 t from r2);subst e2
   exact EqAt.none_int i2 t2
 | _,_,_,_,u,x,A,.non,.str y2,r1,r2,hu=>by
   cases (show u=Value.none from r1)
   obtain ⟨t2,e2⟩:=(show ∃ t,x=Value.str y2 t from r2);subst e2
   exact EqAt.none_str y2 t2
 | _,_,_,_,u,x,A,.non,.lst h2 rs2,r1,r2,hu=>by
   cases (show u=Value.none from r1)
   cases (show x=Value.ref _ from r2);obtain ⟨its2,rv2,p2,_⟩:=I.list h2
   exact EqAt.none_list p2.isList (dJ hu)
 | _,_,_,_,u,x,A,.non,.tup h2 rs2,r1,r2,hu=>by
   cases (show u=Value.none from r1)
   cases (show x=Value.ref _ from r2);obtain ⟨its2,rv2,p2,_⟩:=I.tuple h2
   exact EqAt.none_tuple p2 (dJ hu)
 | _,_,_,_,u,x,A,.bl b1,.non,r1,r2,hu=>by
   cases (show u=Value.bool b1 from r1)
   cases (show x=Value.none from r2)
   exact EqAt.bool_none b1
 | _,_,_,_,u,x,A,.bl b1,.bl b2,r1,r2,hu=>by
   cases (show u=Value.bool b1 from r1)
   cases (show x=Value.bool b2 from r2)
   exact EqAt.bool_bool b1 b2
 | _,_,_,_,u,x,A,.bl b1,.int i2,r1,r2,hu=>by
   cases (show u=Value.bool b1 from r1)
   obtain ⟨t2,e2⟩:=(show ∃ t,x=Value.int i2 t from r2);subst e2
   exact EqAt.bool_int b1 i2 t2
 | _,_,_,_,u,x,A,.bl b1,.str y2,r1,r2,hu=>by
   cases (show u=Value.bool b1 from r1)
   obtain ⟨t2,e2⟩:=(show ∃ t,x=Value.str y2 t from r2);subst e2
   exact EqAt.bool_str b1 y2 t2
 | _,_,_,_,u,x,A,.bl b1,.lst h2 rs2,r1,r2,hu=>by
   cases (show u=Value.bool b1 from r1)
   cases (show x=Value.ref _ from r2);obtain ⟨its2,rv2,p2,_⟩:=I.list h2
   exact EqAt.bool_list b1 p2.isList (dJ hu)
 | _,_,_,_,u,x,A,.bl b1,.tup h2 rs2,r1,r2,hu=>by
   cases (show u=Value.bool b1 from r1)
   cases (show x=Value.ref _ from r2);obtain ⟨its2,rv2,p2,_⟩:=I.tuple h2
   exact EqAt.bool_tuple b1 p2 (dJ hu)
 | _,_,_,_,u,x,A,.int i1,.non,r1,r2,hu=>by
   obtain ⟨t1,e1⟩:=(show ∃ t,u=Value.int i1 t from r1);subst e1
   cases (show x=Value.none from r2)
   exact EqAt.int_none i1 t1
 | _,_,_,_,u,x,A,.int i1,.bl b2,r1,r2,hu=>by
   obtain ⟨t1,e1⟩:=(show ∃ t,u=Value.int i1 t from r1);subst e1
   cases (show x=Value.bool b2 from r2)
   exact EqAt.int_bool i1 t1 b2
 | _,_,_,_,u,x,A,.int i1,.int i2,r1,r2,hu=>by
   obtain ⟨t1,e1⟩:=(show ∃ t,u=Value.int i1 t from r1);subst e1
   obtain ⟨t2,e2⟩:=(show ∃ t,x=Value.int i2 t from r2);subst e2
   exact EqAt.int_int i1 t1 i2 t2
 | _,_,_,_,u,x,A,.int i1,.str y2,r1,r2,hu=>by
   obtain ⟨t1,e1⟩:=(show ∃ t,u=Value.int i1 t from r1);subst e1
   obtain ⟨t2,e2⟩:=(show ∃ t,x=Value.str y2 t from r2);subst e2
   exact EqAt.int_str i1 t1 y2 t2
 | _,_,_,_,u,x,A,.int i1,.lst h2 rs2,r1,r2,hu=>by
   obtain ⟨t1,e1⟩:=(show ∃ t,u=Value.int i1 t from r1);subst e1
   cases (show x=Value.ref _ from r2);obtain ⟨its2,rv2,p2,_⟩:=I.list h2
   exact EqAt.int_list i1 t1 p2.isList (dJ hu)
 | _,_,_,_,u,x,A,.int i1,.tup h2 rs2,r1,r2,hu=>by
   obtain ⟨t1,e1⟩:=(show ∃ t,u=Value.int i1 t from r1);subst e1
   cases (show x=Value.ref _ from r2);obtain ⟨its2,rv2,p2,_⟩:=I.tuple h2
   exact EqAt.int_tuple i1 t1 p2 (dJ hu)
 | _,_,_,_,u,x,A,.str y1,.non,r1,r2,hu=>by
   obtain ⟨t1,e1⟩:=(show ∃ t,u=Value.str y1 t from r1);subst e1
   cases (show x=Value.none from r2)
   exact EqAt.str_none y1 t1
 | _,_,_,_,u,x,A,.str y1,.bl b2,r1,r2,hu=>by
   obtain ⟨t1,e1⟩:=(show ∃ t,u=Value.str y1 t from r1);subst e1
   cases (show x=Value.bool b2 from r2)
   exact EqAt.str_bool y1 t1 b2
 | _,_,_,_,u,x,A,.str y1,.int i2,r1,r2,hu=>by
   obtain ⟨t1,e1⟩:=(show ∃ t,u=Value.str y1 t from r1);subst e1
   obtain ⟨t2,e2⟩:=(show ∃ t,x=Value.int i2 t from r2);subst e2
   exact EqAt.str_int y1 t1 i2 t2
 | _,_,_,_,u,x,A,.str y1,.str y2,r1,r2,hu=>by
   obtain ⟨t1,e1⟩:=(show ∃ t,u=Value.str y1 t from r1);subst e1
   obtain ⟨t2,e2⟩:=(show ∃ t,x=Value.str y2 t from r2);subst e2
   exact EqAt.str_str y1 t1 y2 t2
 | _,_,_,_,u,x,A,.str y1,.lst h2 rs2,r1,r2,hu=>by
   obtain ⟨t1,e1⟩:=(show ∃ t,u=Value.str y1 t from r1);subst e1
   cases (show x=Value.ref _ from r2);obtain ⟨its2,rv2,p2,_⟩:=I.list h2
   exact EqAt.str_list y1 t1 p2.isList (dJ hu)
 | _,_,_,_,u,x,A,.str y1,.tup h2 rs2,r1,r2,hu=>by
   obtain ⟨t1,e1⟩:=(show ∃ t,u=Value.str y1 t from r1);subst e1
   cases (show x=Value.ref _ from r2);obtain ⟨its2,rv2,p2,_⟩:=I.tuple h2
   exact EqAt.str_tuple y1 t1 p2 (dJ hu)
 | _,_,_,_,u,x,A,.lst h1 rs1,.non,r1,r2,hu=>by
   cases (show u=Value.ref _ from r1);obtain ⟨its1,rv1,p1,_⟩:=I.list h1
   cases (show x=Value.none from r2)
   exact EqAt.list_none p1.isList (dJ hu)
 | _,_,_,_,u,x,A,.lst h1 rs1,.bl b2,r1,r2,hu=>by
   cases (show u=Value.ref _ from r1);obtain ⟨its1,rv1,p1,_⟩:=I.list h1
   cases (show x=Value.bool b2 from r2)
   exact EqAt.list_bool b2 p1.isList (dJ hu)
 | _,_,_,_,u,x,A,.lst h1 rs1,.int i2,r1,r2,hu=>by
   cases (show u=Value.ref _ from r1);obtain ⟨its1,rv1,p1,_⟩:=I.list h1
   obtain ⟨t2,e2⟩:=(show ∃ t,x=Value.int i2 t from r2);subst e2
   exact EqAt.list_int i2 t2 p1.isList (dJ hu)
 | _,_,_,_,u,x,A,.lst h1 rs1,.str y2,r1,r2,hu=>by
   cases (show u=Value.ref _ from r1);obtain ⟨its1,rv1,p1,_⟩:=I.list h1
   obtain ⟨t2,e2⟩:=(show ∃ t,x=Value.str y2 t from r2);subst e2
   exact EqAt.list_str y2 t2 p1.isList (dJ hu)
 | _,_,_,_,u,x,A,.lst h1 rs1,.lst h2 rs2,r1,r2,hu=>by
   cases (show u=Value.ref _ from r1);obtain ⟨its1,rv1,p1,_⟩:=I.list h1
   cases (show x=Value.ref _ from r2);obtain ⟨its2,rv2,p2,_⟩:=I.list h2
   exact Qa I h1 h2 rs1 rs2 rv1 rv2 p1.isList p2.isList (hu0 hu) (j_ I rs1 rs2 rv1 rv2 (hu1 hu))
 | _,_,_,_,u,x,A,.lst h1 rs1,.tup h2 rs2,r1,r2,hu=>by
   cases (show u=Value.ref _ from r1);obtain ⟨its1,rv1,p1,_⟩:=I.list h1
   cases (show x=Value.ref _ from r2);obtain ⟨its2,rv2,p2,_⟩:=I.tuple h2
   exact EqAt.list_tuple p1.isList p2 (dJ hu)
 | _,_,_,_,u,x,A,.tup h1 rs1,.non,r1,r2,hu=>by
   cases (show u=Value.ref _ from r1);obtain ⟨its1,rv1,p1,_⟩:=I.tuple h1
   cases (show x=Value.none from r2)
   exact EqAt.tuple_none p1 (dJ hu)
 | _,_,_,_,u,x,A,.tup h1 rs1,.bl b2,r1,r2,hu=>by
   cases (show u=Value.ref _ from r1);obtain ⟨its1,rv1,p1,_⟩:=I.tuple h1
   cases (show x=Value.bool b2 from r2)
   exact EqAt.tuple_bool b2 p1 (dJ hu)
 | _,_,_,_,u,x,A,.tup h1 rs1,.int i2,r1,r2,hu=>by
   cases (show u=Value.ref _ from r1);obtain ⟨its1,rv1,p1,_⟩:=I.tuple h1
   obtain ⟨t2,e2⟩:=(show ∃ t,x=Value.int i2 t from r2);subst e2
   exact EqAt.tuple_int i2 t2 p1 (dJ hu)
 | _,_,_,_,u,x,A,.tup h1 rs1,.str y2,r1,r2,hu=>by
   cases (show u=Value.ref _ from r1);obtain ⟨its1,rv1,p1,_⟩:=I.tuple h1
   obtain ⟨t2,e2⟩:=(show ∃ t,x=Value.str y2 t from r2);subst e2
   exact EqAt.tuple_str y2 t2 p1 (dJ hu)
 | _,_,_,_,u,x,A,.tup h1 rs1,.lst h2 rs2,r1,r2,hu=>by
   cases (show u=Value.ref _ from r1);obtain ⟨its1,rv1,p1,_⟩:=I.tuple h1
   cases (show x=Value.ref _ from r2);obtain ⟨its2,rv2,p2,_⟩:=I.list h2
   exact EqAt.tuple_list p1 p2.isList (dJ hu)
 | _,_,_,_,u,x,A,.tup h1 rs1,.tup h2 rs2,r1,r2,hu=>by
   cases (show u=Value.ref _ from r1);obtain ⟨its1,rv1,p1,_⟩:=I.tuple h1
   cases (show x=Value.ref _ from r2);obtain ⟨its2,rv2,p2,_⟩:=I.tuple h2
   exact eqT I h1 h2 rs1 rs2 rv1 rv2 p1 p2 (hu0 hu) (j_ I rs1 rs2 rv1 rv2 (hu1 hu))
theorem j_ (I:Inv X aq σ H s):∀ {vs ws:List V} {ds es:List PyData} {us xs:List Value} {A:Around},bj X.K H vs ds->bj X.K H ws es->Vals vs us->Vals ws xs->A.units+bB ds<cLine->
 ∀ j (h1:j<us.length) (h2:j<xs.length),EqAt A s us[j] xs[j] (bV (ds.getD j .none) (es.getD j .none))
 |_,_,_,_,_,_,_,.nil,_,.nil,_,_,j,h1,_=>absurd h1 (Nat.not_lt_zero _)
 |_,_,_,_,_,_,_,.cons _ _,.nil,.cons _ _,.nil,_,j,_,h2=>absurd h2 (Nat.not_lt_zero _)
 |_,_,_,_,_,_,_,.cons a b,.cons c d,.cons r rs,.cons t ts,hu,0,_,_=>Ed I a c r t (by simp only [bB] at hu;simp only [List.getD_cons_zero];lia)
 |_,_,_,_,_,_,_,.cons a b,.cons c d,.cons r rs,.cons t ts,hu,j+1,h1,h2=>j_ I b d rs ts (by simp only [bB] at hu;lia) j (by simpa using h1) (by simpa using h2)
end
theorem LR (I:Inv X aq σ H s):∀ {v w:V} {d e:PyData} {u x:Value} {A:Around},Rep X.K H v d->Rep X.K H w e->RelV v u->RelV w x->A.units+bI d<cLine->RcAt A s u x (bV d e)
 | _,_,_,_,u,x,A,.non,.non,r1,r2,hu=>by
   cases (show u=Value.none from r1)
   cases (show x=Value.none from r2)
   exact RcAt.none_none
 | _,_,_,_,u,x,A,.non,.bl b2,r1,r2,hu=>by
   cases (show u=Value.none from r1)
   cases (show x=Value.bool b2 from r2)
   exact RcAt.none_bool b2
 | _,_,_,_,u,x,A,.non,.int i2,r1,r2,hu=>by
   cases (show u=Value.none from r1)
   obtain ⟨t2,e2⟩:=(show ∃ t,x=Value.int i2 t from r2);subst e2
   exact RcAt.none_int i2 t2
 | _,_,_,_,u,x,A,.non,.str y2,r1,r2,hu=>by
   cases (show u=Value.none from r1)
   obtain ⟨t2,e2⟩:=(show ∃ t,x=Value.str y2 t from r2);subst e2
   exact RcAt.none_str y2 t2
 | _,_,_,_,u,x,A,.non,.lst h2 rs2,r1,r2,hu=>by
   cases (show u=Value.none from r1)
   cases (show x=Value.ref _ from r2);obtain ⟨its2,rv2,p2,_⟩:=I.list h2
   exact RcAt.none_list p2.isList (dJ hu)
 | _,_,_,_,u,x,A,.non,.tup h2 rs2,r1,r2,hu=>by
   cases (show u=Value.none from r1)
   cases (show x=Value.ref _ from r2);obtain ⟨its2,rv2,p2,_⟩:=I.tuple h2
   exact RcAt.none_tuple p2 (dJ hu)
 | _,_,_,_,u,x,A,.bl b1,.non,r1,r2,hu=>by
   cases (show u=Value.bool b1 from r1)
   cases (show x=Value.none from r2)
   exact RcAt.bool_none b1
 | _,_,_,_,u,x,A,.bl b1,.bl b2,r1,r2,hu=>by
   cases (show u=Value.bool b1 from r1)
   cases (show x=Value.bool b2 from r2)
   exact RcAt.bool_bool b1 b2
 | _,_,_,_,u,x,A,.bl b1,.int i2,r1,r2,hu=>by
   cases (show u=Value.bool b1 from r1)
   obtain ⟨t2,e2⟩:=(show ∃ t,x=Value.int i2 t from r2);subst e2
   exact RcAt.bool_int b1 i2 t2
 | _,_,_,_,u,x,A,.bl b1,.str y2,r1,r2,hu=>by
   cases (show u=Value.bool b1 from r1)
   obtain ⟨t2,e2⟩:=(show ∃ t,x=Value.str y2 t from r2);subst e2
   exact RcAt.bool_str b1 y2 t2
 | _,_,_,_,u,x,A,.bl b1,.lst h2 rs2,r1,r2,hu=>by
   cases (show u=Value.bool b1 from r1)
   cases (show x=Value.ref _ from r2);obtain ⟨its2,rv2,p2,_⟩:=I.list h2
   exact RcAt.bool_list b1 p2.isList (dJ hu)
 | _,_,_,_,u,x,A,.bl b1,.tup h2 rs2,r1,r2,hu=>by
   cases (show u=Value.bool b1 from r1)
   cases (show x=Value.ref _ from r2);obtain ⟨its2,rv2,p2,_⟩:=I.tuple h2
   exact RcAt.bool_tuple b1 p2 (dJ hu)
 | _,_,_,_,u,x,A,.int i1,.non,r1,r2,hu=>by
   obtain ⟨t1,e1⟩:=(show ∃ t,u=Value.int i1 t from r1);subst e1
   cases (show x=Value.none from r2)
   exact RcAt.int_none i1 t1
 | _,_,_,_,u,x,A,.int i1,.bl b2,r1,r2,hu=>by
   obtain ⟨t1,e1⟩:=(show ∃ t,u=Value.int i1 t from r1);subst e1
   cases (show x=Value.bool b2 from r2)
   exact RcAt.int_bool i1 t1 b2
 | _,_,_,_,u,x,A,.int i1,.int i2,r1,r2,hu=>by
   obtain ⟨t1,e1⟩:=(show ∃ t,u=Value.int i1 t from r1);subst e1
   obtain ⟨t2,e2⟩:=(show ∃ t,x=Value.int i2 t from r2);subst e2
   exact RcAt.int_int i1 t1 i2 t2
 | _,_,_,_,u,x,A,.int i1,.str y2,r1,r2,hu=>by
   obtain ⟨t1,e1⟩:=(show ∃ t,u=Value.int i1 t from r1);subst e1
   obtain ⟨t2,e2⟩:=(show ∃ t,x=Value.str y2 t from r2);subst e2
   exact RcAt.int_str i1 t1 y2 t2
 | _,_,_,_,u,x,A,.int i1,.lst h2 rs2,r1,r2,hu=>by
   obtain ⟨t1,e1⟩:=(show ∃ t,u=Value.int i1 t from r1);subst e1
   cases (show x=Value.ref _ from r2);obtain ⟨its2,rv2,p2,_⟩:=I.list h2
   exact RcAt.int_list i1 t1 p2.isList (dJ hu)
 | _,_,_,_,u,x,A,.int i1,.tup h2 rs2,r1,r2,hu=>by
   obtain ⟨t1,e1⟩:=(show ∃ t,u=Value.int i1 t from r1);subst e1
   cases (show x=Value.ref _ from r2);obtain ⟨its2,rv2,p2,_⟩:=I.tuple h2
   exact RcAt.int_tuple i1 t1 p2 (dJ hu)
 | _,_,_,_,u,x,A,.str y1,.non,r1,r2,hu=>by
   obtain ⟨t1,e1⟩:=(show ∃ t,u=Value.str y1 t from r1);subst e1
   cases (show x=Value.none from r2)
   exact RcAt.str_none y1 t1
 | _,_,_,_,u,x,A,.str y1,.bl b2,r1,r2,hu=>by
   obtain ⟨t1,e1⟩:=(show ∃ t,u=Value.str y1 t from r1);subst e1
   cases (show x=Value.bool b2 from r2)
   exact RcAt.str_bool y1 t1 b2
 | _,_,_,_,u,x,A,.str y1,.int i2,r1,r2,hu=>by
   obtain ⟨t1,e1⟩:=(show ∃ t,u=Value.str y1 t from r1);subst e1
   obtain ⟨t2,e2⟩:=(show ∃ t,x=Value.int i2 t from r2);subst e2
   exact RcAt.str_int y1 t1 i2 t2
 | _,_,_,_,u,x,A,.str y1,.str y2,r1,r2,hu=>by
   obtain ⟨t1,e1⟩:=(show ∃ t,u=Value.str y1 t from r1);subst e1
   obtain ⟨t2,e2⟩:=(show ∃ t,x=Value.str y2 t from r2);subst e2
   exact RcAt.str_str y1 t1 y2 t2
 | _,_,_,_,u,x,A,.str y1,.lst h2 rs2,r1,r2,hu=>by
   obtain ⟨t1,e1⟩:=(show ∃ t,u=Value.str y1 t from r1);subst e1
   cases (show x=Value.ref _ from r2);obtain ⟨its2,rv2,p2,_⟩:=I.list h2
   exact RcAt.str_list y1 t1 p2.isList (dJ hu)
 | _,_,_,_,u,x,A,.str y1,.tup h2 rs2,r1,r2,hu=>by
   obtain ⟨t1,e1⟩:=(show ∃ t,u=Value.str y1 t from r1);subst e1
   cases (show x=Value.ref _ from r2);obtain ⟨its2,rv2,p2,_⟩:=I.tuple h2
   exact RcAt.str_tuple y1 t1 p2 (dJ hu)
 | _,_,_,_,u,x,A,.lst h1 rs1,.non,r1,r2,hu=>by
   cases (show u=Value.ref _ from r1);obtain ⟨its1,rv1,p1,_⟩:=I.list h1
   cases (show x=Value.none from r2)
   exact RcAt.list_none p1.isList (dJ hu)
 | _,_,_,_,u,x,A,.lst h1 rs1,.bl b2,r1,r2,hu=>by
   cases (show u=Value.ref _ from r1);obtain ⟨its1,rv1,p1,_⟩:=I.list h1
   cases (show x=Value.bool b2 from r2)
   exact RcAt.list_bool b2 p1.isList (dJ hu)
 | _,_,_,_,u,x,A,.lst h1 rs1,.int i2,r1,r2,hu=>by
   cases (show u=Value.ref _ from r1);obtain ⟨its1,rv1,p1,_⟩:=I.list h1
   obtain ⟨t2,e2⟩:=(show ∃ t,x=Value.int i2 t from r2);subst e2
   exact RcAt.list_int i2 t2 p1.isList (dJ hu)
 | _,_,_,_,u,x,A,.lst h1 rs1,.str y2,r1,r2,hu=>by
   cases (show u=Value.ref _ from r1);obtain ⟨its1,rv1,p1,_⟩:=I.list h1
   obtain ⟨t2,e2⟩:=(show ∃ t,x=Value.str y2 t from r2);subst e2
   exact RcAt.list_str y2 t2 p1.isList (dJ hu)
 | _,_,_,_,u,x,A,.lst h1 rs1,.lst h2 rs2,r1,r2,hu=>by
   cases (show u=Value.ref _ from r1);obtain ⟨its1,rv1,p1,_⟩:=I.list h1
   cases (show x=Value.ref _ from r2);obtain ⟨its2,rv2,p2,_⟩:=I.list h2
   exact Px rs1 rs2 rv1 rv2 p1.isList p2.isList (hu0 hu) (j_ I rs1 rs2 rv1 rv2 (hu1 hu))
 | _,_,_,_,u,x,A,.lst h1 rs1,.tup h2 rs2,r1,r2,hu=>by
   cases (show u=Value.ref _ from r1);obtain ⟨its1,rv1,p1,_⟩:=I.list h1
   cases (show x=Value.ref _ from r2);obtain ⟨its2,rv2,p2,_⟩:=I.tuple h2
   exact RcAt.list_tuple p1.isList p2 (dJ hu)
 | _,_,_,_,u,x,A,.tup h1 rs1,.non,r1,r2,hu=>by
   cases (show u=Value.ref _ from r1);obtain ⟨its1,rv1,p1,_⟩:=I.tuple h1
   cases (show x=Value.none from r2)
   exact RcAt.tuple_none p1 (dJ hu)
 | _,_,_,_,u,x,A,.tup h1 rs1,.bl b2,r1,r2,hu=>by
   cases (show u=Value.ref _ from r1);obtain ⟨its1,rv1,p1,_⟩:=I.tuple h1
   cases (show x=Value.bool b2 from r2)
   exact RcAt.tuple_bool b2 p1 (dJ hu)
 | _,_,_,_,u,x,A,.tup h1 rs1,.int i2,r1,r2,hu=>by
   cases (show u=Value.ref _ from r1);obtain ⟨its1,rv1,p1,_⟩:=I.tuple h1
   obtain ⟨t2,e2⟩:=(show ∃ t,x=Value.int i2 t from r2);subst e2
   exact RcAt.tuple_int i2 t2 p1 (dJ hu)
 | _,_,_,_,u,x,A,.tup h1 rs1,.str y2,r1,r2,hu=>by
   cases (show u=Value.ref _ from r1);obtain ⟨its1,rv1,p1,_⟩:=I.tuple h1
   obtain ⟨t2,e2⟩:=(show ∃ t,x=Value.str y2 t from r2);subst e2
   exact RcAt.tuple_str y2 t2 p1 (dJ hu)
 | _,_,_,_,u,x,A,.tup h1 rs1,.lst h2 rs2,r1,r2,hu=>by
   cases (show u=Value.ref _ from r1);obtain ⟨its1,rv1,p1,_⟩:=I.tuple h1
   cases (show x=Value.ref _ from r2);obtain ⟨its2,rv2,p2,_⟩:=I.list h2
   exact RcAt.tuple_list p1 p2.isList (dJ hu)
 | _,_,_,_,u,x,A,.tup h1 rs1,.tup h2 rs2,r1,r2,hu=>by
   cases (show u=Value.ref _ from r1);obtain ⟨its1,rv1,p1,_⟩:=I.tuple h1
   cases (show x=Value.ref _ from r2);obtain ⟨its2,rv2,p2,_⟩:=I.tuple h2
   exact PL rs1 rs2 rv1 rv2 p1 p2 (hu0 hu) (j_ I rs1 rs2 rv1 rv2 (hu1 hu))
end
noncomputable def Jw (K:PySem.W.Frag):R2:=fun x y H Q=>∃ d e,Rep K H x d/\Rep K H y e/\bI d≤60/\Q (.bl (bV d e)) H
theorem lO (hu:X.A.units+64<cLine):iI X (compareOp .Eq) (Jw X.K):=by
 intro aq s σ H x y v u Q I rx ry h
 obtain ⟨d,e,h1,h2,hd,q⟩:=h
 exact LR I h1 h2 rx ry (by lia) _ _ _ _ ⟨.bl _,H,I,rfl,q⟩
noncomputable def Oa (K:PySem.W.Frag):R2:=fun x y H Q=>∃ d e,Rep K H x (.tuple d)/\Rep K H y (.tuple e)/\bB d≤60/\Q (.bl (!cZ d e)) H
theorem Eu (hu:X.A.units+64<cLine):iI X (compareOp .NotEq) (Oa X.K):=by
 intro aq s σ H x y v u Q I rx ry h
 obtain ⟨d,e,h1,h2,hd,q⟩:=h
 cases h1 with
 | tup g1 rs1=>
   cases h2 with
   | tup g2 rs2=>
     cases (show v=Value.ref _ from rx)
     cases (show u=Value.ref _ from ry)
     obtain ⟨its1,rv1,p1,_⟩:=I.tuple g1
     obtain ⟨its2,rv2,p2,_⟩:=I.tuple g2
     have hz:=vB (X:=X) (H:=H) (A:=X.A) rs1 rs2 rv1 rv2
     have hw:=RcNeAt.tuples (A:=X.A) (show s.heap.IsTuple _ its1.toArray from p1) (show s.heap.IsTuple _ its2.toArray from p2) (by lia)
      (e:=fun j=>bV (d.getD j .none) (e.getD j .none)) (fun j h1 h2=>by simpa using j_ I rs1 rs2 rv1 rv2 (A:=X.A.in1) (by show X.A.units+1+_<_;lia) j (by simpa using h1) (by simpa using h2))
     rw [hz] at hw
     exact hw _ _ _ _ ⟨.bl _,H,I,rfl,q⟩
theorem j9:∀ {es:List PyData},e∈es->bI e≤bB es
 |_::_,.head _=>by simp only [bB];lia
 |_::r,.tail _ h=>by have:=j9 h;simp only [bB];lia
noncomputable def Fv:PyData->String
 |.none=>"NoneType"
 |.bool _=>"bool"
 |.int _=>"int"
 |.str _=>"str"
 |.list _=>"list"
 |.tuple _=>"tuple"
 |.dict _=>"dict"
theorem isD (I:Inv X aq σ H s) (r:Rep X.K H v d) (rv:RelV v u)
 (e:PySem.W.kitOne X.K (.type (Fv d)) c=some b) (h:∀ tk,Q (.bool b) { s with toks:=tk }):wpAny (model X.prog X.w) A (call (.builtin "isinstance") [u,c]) Q E s:=by
 cases r with
 |non=>cases (show u=Value.none from rv);exact PySem.W.kia_one PySem.W.kitx_none I.kIn True.intro e (fun z=>nomatch z) h
 |bl y=>cases (show u=Value.bool y from rv);exact PySem.W.kia_one PySem.W.kitx_bool I.kIn True.intro e (fun z=>nomatch z) h
 |int i=>obtain ⟨t,q⟩:=(show ∃ t,u=Value.int i t from rv);cases q;exact PySem.W.kia_one PySem.W.kitx_int I.kIn True.intro e (fun z=>nomatch z) h
 |str y=>obtain ⟨t,q⟩:=(show ∃ t,u=Value.str y t from rv);cases q;exact PySem.W.kia_one PySem.W.kitx_str I.kIn True.intro e (fun z=>nomatch z) h
 | tup g _=>
   cases (show u=Value.ref _ from rv)
   obtain ⟨_,_,⟨o,h1,h2,_⟩,_⟩:=I.tuple g
   exact PySem.W.kia_one PySem.W.kitx_tuple I.kIn ⟨o,h1,h2⟩ e (fun z=>nomatch z) h
 | lst g _=>
   cases (show u=Value.ref _ from rv)
   obtain ⟨_,_,⟨o,n,h1,h2,_⟩,_⟩:=I.list g
   exact PySem.W.kia_one PySem.W.kitx_list I.kIn ⟨o,h1,h2⟩ e (fun z=>nomatch z) h
theorem Oh (I:Inv X aq σ H s) (r:Rep X.K H v d) (rv:RelV v u)
 (htp:s.heap.get? tp=some ⟨.type "tuple",dd,.seq its.toArray n,sl⟩) (e:PySem.W.kitAny X.K (.type (Fv d)) its=some b) (h:∀ tk,Q (.bool b) { s with toks:=tk }):wpAny (model X.prog X.w) A (call (.builtin "isinstance") [u,.ref tp]) Q E s:=by
 cases r with
 |non=>cases (show u=Value.none from rv);exact PySem.W.kia_tup PySem.W.kitx_none I.kIn True.intro htp e (fun z=>nomatch z) h
 |bl y=>cases (show u=Value.bool y from rv);exact PySem.W.kia_tup PySem.W.kitx_bool I.kIn True.intro htp e (fun z=>nomatch z) h
 |int i=>obtain ⟨t,q⟩:=(show ∃ t,u=Value.int i t from rv);cases q;exact PySem.W.kia_tup PySem.W.kitx_int I.kIn True.intro htp e (fun z=>nomatch z) h
 |str y=>obtain ⟨t,q⟩:=(show ∃ t,u=Value.str y t from rv);cases q;exact PySem.W.kia_tup PySem.W.kitx_str I.kIn True.intro htp e (fun z=>nomatch z) h
 | tup g _=>
   cases (show u=Value.ref _ from rv)
   obtain ⟨_,_,⟨o,h1,h2,_⟩,_⟩:=I.tuple g
   exact PySem.W.kia_tup PySem.W.kitx_tuple I.kIn ⟨o,h1,h2⟩ htp e (fun z=>nomatch z) h
 | lst g _=>
   cases (show u=Value.ref _ from rv)
   obtain ⟨_,_,⟨o,n,h1,h2,_⟩,_⟩:=I.list g
   exact PySem.W.kia_tup PySem.W.kitx_list I.kIn ⟨o,h1,h2⟩ htp e (fun z=>nomatch z) h
noncomputable def Lh (K:PySem.W.Frag):List V->Hp->VK->Prop:=fun xs H Q=>∃ x n d b,xs=[x,.ty n]/\Rep K H x d/\PySem.W.kitOne K (.type (Fv d)) (.type n)=some b/\Q (.bl b) H
theorem bK:gD X (.builtin "isinstance") (Lh X.K):=by
 intro aq s σ H xs us Q I r h
 obtain ⟨x,n,d,b,rfl,hr,e,q⟩:=h
 cases r with
 | cons r1 r=>
   cases r with
   | cons r2 r=>
     cases r
     cases (show _=Value.type n from r2)
     exact isD I hr r1 e fun tk=>⟨.bl b,H,I.tok tk,rfl,q⟩
noncomputable def Km (K:PySem.W.Frag):List V->Hp->VK->Prop:=fun xs H Q=>∃ x a n m d b,xs=[x,.ref a]/\H a=some (.tup [.ty n,.ty m])/\Rep K H x d/\PySem.W.kitAny K (.type (Fv d)) [.type n,.type m]=some b/\Q (.bl b) H
theorem pA:gD X (.builtin "isinstance") (Km X.K):=by
 intro aq s σ H xs us Q I r h
 obtain ⟨x,a,n,m,d,b,rfl,ha,hr,e,q⟩:=h
 cases r with
 | cons r1 r=>
   cases r with
   | cons r2 r=>
     cases r
     cases (show _=Value.ref a from r2)
     obtain ⟨z,its,rv,o,h1,h2,k,h3⟩:=(show dm X.prog X.w H s.heap a (.tup [.ty n,.ty m]) from I.hok a _ ha)
     obtain ⟨cls,dd,data,sl⟩:=o
     simp only at h2 h3
     subst h2 h3
     cases rv with
     | cons g1 rv=>
       cases rv with
       | cons g2 rv=>
         cases rv
         cases (show _=Value.type n from g1)
         cases (show _=Value.type m from g2)
         exact Oh I hr r1 h1 e fun tk=>⟨.bl b,H,I.tok tk,rfl,q⟩
theorem rG:∀ {bs:List Bool},xs=bs.map V.bl->Vals xs us->us=bs.map Value.bool:=by
 intro bs e r
 induction bs generalizing xs us with
 |nil=>subst e;cases r;rfl
 | cons b t ih=>
   subst e
   cases r with
   |cons r1 r=>rw [List.map_cons,ih rfl r,(show _=Value.bool b from r1)]
theorem range_all (bs:List Bool):(List.range bs.length).all (fun i=>bs.getD i false)=bs.all id:=by
 induction bs with
 |nil=>rfl
 |cons b t ih=>rw [List.length_cons,List.range_succ_eq_map,List.all_cons,List.all_map,List.all_cons,← ih];rfl
theorem range_any (bs:List Bool):(List.range bs.length).any (fun i=>bs.getD i false)=bs.any id:=by
 induction bs with
 |nil=>rfl
 |cons b t ih=>rw [List.length_cons,List.range_succ_eq_map,List.any_cons,List.any_map,List.any_cons,← ih];rfl
theorem m7 {bs:List Bool}:TruthOf P w A (fun i v=>((bs.map Value.bool).toArray)[i]?=some v) fun i=>bs.getD i false:=fun i v s Q E hP hQ=>by
 dsimp only at hP hQ
 rw [List.getElem?_toArray,List.getElem?_map] at hP
 cases e:bs[i]? with
 |none=>rw [e] at hP;cases hP
 | some b=>
   rw [e] at hP
   cases hP
   rw [List.getD_eq_getElem?_getD,e] at hQ
   exact wpAny_pure hQ
noncomputable def Dd (K:PySem.W.Frag) (f:List Bool->Bool):List V->Hp->VK->Prop:=fun xs H Q=>∃ a bs,xs=[.ref a]/\bF K H a (bs.map V.bl)/\Q (.bl (f bs)) H
theorem jy {X:Cx} (hh:X.calm=true):gD X (.builtin "all") (Dd X.K fun bs=>bs.all id):=by
 intro aq s σ H xs us Q I r h
 obtain ⟨a,bs,rfl,hq,q⟩:=h
 cases r with
 | cons r1 r=>
   cases r
   cases (show _=Value.ref a from r1)
   obtain ⟨its,rv,p,hz⟩:=I.list hq
   have e:=rG rfl rv
   subst e
   refine PySem.call_all_walk (wpAny_pyIter_list p.isList ?_)
   have hne:a≠s.heap.objs.size:=(by obtain ⟨o,ho,_⟩:=p.isList;exact Nat.ne_of_lt (Heap.lt_size ho))
   refine ⟨s.heap.objs.size,_,_,_,_,_,_,rfl,Walks.list (A:=X.A.in1) (I.ok.hd hh) s.heap.objs.size a hne (bs.map Value.bool).toArray,⟨⟨_,Heap.get?_push_size _ rfl,rfl,rfl⟩,?_⟩,m7,fun h' tk hk=>?_⟩
   ·obtain ⟨o,ho,hc,n,hd⟩:=p.isList
    exact ⟨o,Heap.get?_push_of_some _ ho,hc,n,hd⟩
   ·rw [List.size_toArray,List.length_map,range_all]
    exact ⟨.bl _,H,I.kept fun b o e=>hk b o (by simp;exact Nat.ne_of_lt (Heap.lt_size e)) (Heap.get?_push_of_some _ e),rfl,q⟩
theorem wD {X:Cx} (hh:X.calm=true):gD X (.builtin "any") (Dd X.K fun bs=>bs.any id):=by
 intro aq s σ H xs us Q I r h
 obtain ⟨a,bs,rfl,hq,q⟩:=h
 cases r with
 | cons r1 r=>
   cases r
   cases (show _=Value.ref a from r1)
   obtain ⟨its,rv,p,hz⟩:=I.list hq
   have e:=rG rfl rv
   subst e
   refine PySem.call_any_walk (wpAny_pyIter_list p.isList ?_)
   have hne:a≠s.heap.objs.size:=(by obtain ⟨o,ho,_⟩:=p.isList;exact Nat.ne_of_lt (Heap.lt_size ho))
   refine ⟨s.heap.objs.size,_,_,_,_,_,_,rfl,Walks.list (A:=X.A.in1) (I.ok.hd hh) s.heap.objs.size a hne (bs.map Value.bool).toArray,⟨⟨_,Heap.get?_push_size _ rfl,rfl,rfl⟩,?_⟩,m7,fun h' tk hk=>?_⟩
   ·obtain ⟨o,ho,hc,n,hd⟩:=p.isList
    exact ⟨o,Heap.get?_push_of_some _ ho,hc,n,hd⟩
   ·rw [List.size_toArray,List.length_map,range_any]
    exact ⟨.bl _,H,I.kept fun b o e=>hk b o (by simp;exact Nat.ne_of_lt (Heap.lt_size e)) (Heap.get?_push_of_some _ e),rfl,q⟩
theorem Ay:∀ {ys:List Str},Vals (ys.map V.str) us->StrsAre us ys:=by
 intro ys
 induction ys generalizing us with
 |nil=>intro r;cases r;exact .nil
 | cons y t ih=>
   intro r
   cases r with
   | cons r1 r=>
     obtain ⟨tk,e⟩:=(show ∃ t,_=Value.str y t from r1)
     subst e
     exact .cons _ _ (ih r)
noncomputable def rJoin (K:PySem.W.Frag):V->List V->Hp->VK->Prop:=fun x vs H Q=>∃ z a ys,x=.str z/\vs=[.ref a]/\bF K H a (ys.map V.str)/\(ys.map (·.length)).sum+ys.length*z.length≤16777216/\Q (.str (Txt.join z ys)) H
theorem CJ:FN X "str.join" (rJoin X.K):=by
 intro aq s σ H x vs v us Q I rx rv h
 obtain ⟨z,a,ys,rfl,rfl,hq,hl,q⟩:=h
 obtain ⟨t,e⟩:=(show ∃ t,v=Value.str z t from rx)
 subst e
 cases rv with
 | cons r1 r=>
   cases r
   cases (show _=Value.ref a from r1)
   obtain ⟨its,rs,p,hz⟩:=I.list hq
   exact join_list p.isList (by simpa using Ay rs) hl fun t' k=>⟨.str _,H,I.tok k,⟨t',rfl⟩,q⟩
noncomputable def Ob (f:Str->Bool):V->List V->Hp->VK->Prop:=fun x vs H Q=>∃ z,x=.str z/\vs=[]/\Q (.bl (f z)) H
theorem uI:FN X "str.isascii" (Ob fun x=>x.cps.all (·<128)):=by
 intro aq s σ H x vs v us Q I rx rv h
 obtain ⟨z,rfl,rfl,q⟩:=h
 obtain ⟨t,e⟩:=(show ∃ t,v=Value.str z t from rx)
 subst e
 cases rv
 exact call_gives PySem.F.slot_str_isascii (typeIs_str _ _ _) PySem.F.entry_str_isascii (PySem.F.args_str_isascii_1 _) (gives_str_isascii z t) ⟨.bl _,H,I,rfl,q⟩
theorem tH:FN X "str.isalpha" (Ob fun x=>x.length > 0 && x.cps.all Unicode.isAlpha):=by
 intro aq s σ H x vs v us Q I rx rv h
 obtain ⟨z,rfl,rfl,q⟩:=h
 obtain ⟨t,e⟩:=(show ∃ t,v=Value.str z t from rx)
 subst e
 cases rv
 exact call_gives PySem.F.slot_str_isalpha (typeIs_str _ _ _) PySem.F.entry_str_isalpha (PySem.F.args_str_isalpha_1 _) (gives_str_isalpha z t) ⟨.bl _,H,I,rfl,q⟩
theorem sO:FN X "str.islower" (Ob fun x=>x.cps.any Unicode.isLower && !x.cps.any fun c=>Unicode.isUpper c || Unicode.isTitle c):=by
 intro aq s σ H x vs v us Q I rx rv h
 obtain ⟨z,rfl,rfl,q⟩:=h
 obtain ⟨t,e⟩:=(show ∃ t,v=Value.str z t from rx)
 subst e
 cases rv
 exact call_gives PySem.F.slot_str_islower (typeIs_str _ _ _) PySem.F.entry_str_islower (PySem.F.args_str_islower_1 _) (gives_str_islower z t) ⟨.bl _,H,I,rfl,q⟩
structure J5 (osc:Scope) (N:List Str) (scope:Scope) (own:List Str) (js:List Nat) (N':List Str):Prop where
 kind:scope.kind=.function
 nocell:∀ y∈scope.names,y.2≠.cell
 names:∀ y∈scope.names,y.2=.local->scope.names.lookup y.1=some .local
 free:∀ y∈scope.names,y.2=.free->osc.names.lookup y.1=some .cell∨osc.names.lookup y.1=some .free
 nm:N'=own++js.map fun j=>N.getD j Str.empty
 fr:∀ j∈js,j<N.length/\(N.getD j Str.empty,NameKind.free)∈scope.names/\∀ y∈scope.names,y.1=N.getD j Str.empty->y.2=.free
theorem bL.of (h1:X.env.scope=osc) (h2:X.N=N) (h:J5 osc N scope own js N'):bL X scope own js N':=by
 subst h1 h2
 exact ⟨h.kind,h.nocell,h.names,h.free,h.nm,fun j hj=>⟨(h.fr j hj).1,(h.fr j hj).2.1,fun k hk=>(h.fr j hj).2.2 _ hk rfl⟩⟩
mutual
noncomputable def gq:PyData->Nat
 |.tuple xs=>max xs.length (eV xs)
 |.list xs=>max xs.length (eV xs)
 |_=>0
noncomputable def eV:List PyData->Nat
 |[]=>0
 |d::r=>max (gq d) (eV r)
end
theorem oh:∀ {es:List PyData},e∈es->gq e≤eV es
 |_::_,.head _=>by simp only [eV];lia
 |_::r,.tail _ h=>by have:=oh h;simp only [eV];lia
theorem cP (hg:Gl X x) (hm:X.mg x=none) (hv:bootBuiltins x=some (.type n)) (hn:x ≠ "__name__":=by decide) (hd:(x == ("__debug__" : Str))=false:=by decide):PE X (.Name x pos) (tC (.ty n)):=Cu (v:=.ty n) hg hm hv rfl hn hd
theorem b_ {c:Bool} {A B:Prop} (h:c=true) (q:A):if c=true then A else B:=by rw [if_pos h];exact q
theorem bJ {c:Bool} {A B:Prop} (h:c=false) (q:B):if c=true then A else B:=by rw [if_neg (by rw [h];exact Bool.false_ne_true)];exact q
noncomputable def BW (r r' r'':R2) (ta tb tc td:TE):TE:=fun σ H Q=>ta σ H fun x H1=>tb σ H1 fun y H2=>r x y H2 fun z H3=>∃ k,z=.bl k/\
 (if k=true then tc σ H3 fun w' H4=>r' y w' H4 fun z' H5=>∃ k',z'=.bl k'/\(if k'=true then td σ H5 fun v' H6=>r'' w' v' H6 Q else Q (.bl false) H5) else Q (.bl false) H3)
theorem wY (ho:iI X (compareOp op) r) (ho':iI X (compareOp op') r') (ho'':iI X (compareOp op'') r'') (ha:PE X a ta) (hb:PE X b tb) (hc:PE X c tc) (hd:PE X d td)
 (hm:lastMarks [op,op',op''] [b,c,d]=false:=by with_unfolding_all rfl):PT X (.Compare a [op,op',op''] [b,c,d] pos) (uL (BW r r' r'' ta tb tc td)):=by
 intro aq s σ H Q I h
 refine isTrue_chain (cI (ha aq s σ H _ I h) fun v s1 ⟨x,H1,I1,r1,q1⟩=>test_link (cI (hb aq s1 σ H1 _ I1 q1) fun u s2 ⟨y,H2,I2,r2,q2⟩=>
  cI (ho aq s2 σ H2 x y v u _ I2 r1 r2 q2) fun d' s3 ⟨z,H3,I3,r3,k,e,q3⟩=>?_)) hm
 subst e
 cases r3
 refine wpAny_truthy_bool ?_
 cases k with
 | false=>
   obtain ⟨k',e',q'⟩:=q3
   cases e'
   exact ite_ff ⟨H3,I3,q'⟩
 | true=>
   refine ite_tt (test_link (cI (hc aq s3 σ H3 _ I3 q3) fun w' s4 ⟨z',H4,I4,r4,q4⟩=>cI (ho' aq s4 σ H4 y z' u w' _ I4 r2 r4 q4) fun d'' s5 ⟨z2,H5,I5,r5,k2,e2,q5⟩=>?_))
   subst e2
   cases r5
   refine wpAny_truthy_bool ?_
   cases k2 with
   | false=>
     obtain ⟨k',e',q'⟩:=q5
     cases e'
     exact ite_ff ⟨H5,I5,q'⟩
   | true=>
     refine ite_tt (test_last (cI (hd aq s5 σ H5 _ I5 q5) fun w2 s6 ⟨z3,H6,I6,r6,q6⟩=>cI (ho'' aq s6 σ H6 z' z3 w' w2 _ I6 r4 r6 q6) fun d3 s7 ⟨z4,H7,I7,r7,k3,e3,q7⟩=>?_))
     subst e3
     cases r7
     exact wpAny_truthy_bool ⟨H7,I7,q7⟩
end L2
namespace HT
open PySem PySem.Spec PyProof.Rows
theorem Bc {s:Shared} {ws:List Value} {Q:Value->Shared->Prop} (ht:IsTup s.heap t #[]) (hb:IsTup s.heap b ws.toArray) (h:Q (.ref b) s):wpAny (model prog w) A (binaryOp .Add (.ref t) (.ref b)) Q E s:=by
 obtain ⟨⟨_,dd,_,sl⟩,ho,rfl,n,rfl⟩:=id ht
 obtain ⟨⟨_,dd2,_,sl2⟩,ho2,rfl,n2,rfl⟩:=id hb
 exact concat_meets ⟨_,ho,rfl⟩ ⟨_,ho2,rfl⟩ noFill_tuple_add seq_tuple_add PySem.F.slot_tuple_add PySem.F.entry_tuple_add (PySem.F.args_tuple_add_2 _ _) (tuple_addW0 t b #[] ws.toArray n n2 dd dd2 sl sl2 rfl) ⟨ho,ho2,h⟩
theorem wC {s:Shared} {t sl:Addr} {items:Array Value} {a b c:Value} {lo step:Int} {n:Nat} {Q:Value->Shared->Prop} (ht:IsTup s.heap t items) (hs:s.heap.IsSliceOf sl a b c)
 (ha:∀ (A':Around) (Q':Int×Int×Nat->Shared->Prop) (E':Value->Shared->Prop),Q' (lo,step,n) s->wpAny (model prog w) A' (Builtin.Slice.sliceApplied (.ref sl) (pure (items.size:Int))) Q' E' s)
 (h1:(lo == 0 && step == 1 && n == items.size)=true->Q (.ref t) s)
 (h2:¬ (lo == 0 && step == 1 && n == items.size)=true->((List.range n).filterMap fun (k:Nat)=>items[(lo+(k:Int)*step).toNat]?).length≤sizeLine/\
  Q (.ref s.heap.objs.size) { s with heap:=s.heap.push { cls:=.type "tuple",data:=.seq ((List.range n).filterMap fun (k:Nat)=>items[(lo+(k:Int)*step).toNat]?).toArray } }) :
 wpAny (model prog w) A (getItem (.ref t) (.ref sl)) Q E s:=by
 obtain ⟨so,hso,hsc,hsd⟩:=id hs
 have hty:s.TypeIs (.ref sl) "slice":=⟨so,hso,hsc⟩
 obtain ⟨to,hto,htc,nt,htd⟩:=id ht
 unfold getItem
 try with_reducible refine wpAny_holding ?_
 first|refine wpAny_bind (wpAny_pure ?_)|skip
 refine wpAny_bind (wpAny_sequenceKey ht.typeIs (by decide) (wpAny_bind (wpAny_callSpecial?_slot (name:=Str.ofString "__getitem__") ht.typeIs PyProof.Rows.slot_tuple_getitem (wpAny_call_entry PyProof.Rows.slot_tuple_getitem ht.typeIs entry_tuple_getitem ?_ (args_tuple_getitem _ _)))))
 show wpAny _ _ (Builtin.Tuple.tupleItemsOf (.ref t) >>= _) _ _ s
 refine wpAny_bind (tupleItemsOf_ ht (wpAny_bind (wpAny_typeOf hty ?_)))
 rw [if_pos (by decide)]
 refine wpAny_bind (ha _ _ _ ?_)
 show wpAny _ _ (if (lo == 0 && step == 1 && n == items.size)=true then _ else _) _ _ s
 by_cases hw:(lo == 0 && step == 1 && n == items.size)=true
 ·rw [if_pos hw]
  have hx:wpAny (model prog w) A.in1 (Builtin.Tuple.tupleIsExact (.ref t)) (fun b s'=>b=true/\s'=s) E s:=by
   unfold Builtin.Tuple.tupleIsExact
   refine wpAny_bind (wpAny_typeOf_ref hto ?_)
   rw [htc]
   exact wpAny_pure ⟨rfl,rfl⟩
  first
   |refine wpAny_bind (wpAny_mono hx (fun b s' h'=>?_) fun _ _ z=>z)
   |refine wpAny_bind (wpAny_bind (wpAny_mono hx (fun b s' h'=>?_) fun _ _ z=>z))
  obtain ⟨rfl,rfl⟩:=h'
  rw [if_pos rfl]
  first
   |exact wpAny_bind (wpAny_rule (wpAny_pure ⟨_,rfl,wpAny_pure (h1 hw)⟩))
   |exact wpAny_bind (wpAny_rule (wpAny_bind (wpAny_pure (wpAny_pure ⟨_,rfl,wpAny_pure (h1 hw)⟩))))
 ·rw [if_neg hw]
  obtain ⟨hz,hq⟩:=h2 hw
  have hok:sizeOk (.seq ((List.range n).filterMap fun (k:Nat)=>items[(lo+(k:Int)*step).toNat]?).toArray):=by
   show (_:Array Value).size≤sizeLine
   rw [List.size_toArray];exact hz
  first
   |exact wpAny_bind (m:=Builtin.Tuple.tupleExact _) (wpAny_newObj_type (wpAny_pure ⟨_,rfl,wpAny_pure hq⟩) hok)
   |exact wpAny_bind (m:=Builtin.Tuple.tupleExact _) (wpAny_newObj_type (wpAny_bind (wpAny_pure (wpAny_pure ⟨_,rfl,wpAny_pure hq⟩))) hok)
   |exact wpAny_bind (wpAny_bind (m:=Builtin.Tuple.tupleExact _) (wpAny_newObj_type (wpAny_pure (wpAny_pure ⟨_,rfl,wpAny_pure hq⟩)) hok))
end HT
namespace L2
open PySem PySem.Spec PyProof.Rows PySem.SeqAt
noncomputable def Eb (K:PySem.W.Frag):R2:=fun x y H Q=>∃ a b xs ys,x=.ref a/\y=.ref b/\bD K H a xs/\bD K H b ys/\xs.length+ys.length≤sizeLine/\(xs=[]->Q (.ref b) H)/\(ys=[]->Q (.ref a) H)/\∀ p,H p=none->Q (.ref p) (upd H p (.tup (xs++ys)))
theorem ni:iI X (binaryOp .Add) (Eb X.K):=by
 intro aq s σ H x y v u Q I rx ry h
 obtain ⟨a,b,xs,ys,rfl,rfl,ha,hb,hz,q0,q1,q2⟩:=h
 by_cases hx:xs=[]
 ·subst hx
  cases (show v=Value.ref a from rx)
  cases (show u=Value.ref b from ry)
  obtain ⟨its,r1,p1,_⟩:=I.tuple ha
  obtain ⟨its2,r2,p2,_⟩:=I.tuple hb
  cases r1
  exact HT.Bc p1 p2 ⟨.ref b,H,I,rfl,q0 rfl⟩
 ·refine BL aq s σ H _ _ v u Q I rx ry ⟨a,b,xs,ys,rfl,rfl,ha,hb,hx,hz,q1,fun _=>q2⟩
noncomputable def FZ (K:PySem.W.Frag):V->Option Int->Option Int->Hp->VK->Prop:=fun x lo hi H Q=>∃ a xs,x=.ref a/\bD K H a xs/\(jj xs lo hi=xs->Q (.ref a) H)/\∀ p,H p=none->Q (.ref p) (upd H p (.tup (jj xs lo hi)))
theorem gn {X:Cx}:Jl X (FZ X.K):=by
 intro aq s σ H x v vl vu lo hi sl Q I rx hs pl pu h
 obtain ⟨a,xs,rfl,hx,q1,q2⟩:=h
 by_cases hw:HT.eG xs.length 0 lo=0/\HT.eG xs.length xs.length hi=xs.length
 ·cases (show v=Value.ref a from rx)
  obtain ⟨its,r,ht,hz⟩:=I.tuple hx
  have hlen:its.toArray.size=xs.length:=by rw [List.size_toArray];exact r.length.symm
  refine ⟨"tuple",_,PyProof.Rows.slot_tuple_getitem.lookup,ht.typeIs,?_⟩
  have e:jj xs lo hi=xs:=by
   unfold jj
   rw [hw.1,hw.2,List.drop_zero,Nat.sub_zero,List.take_length]
  refine HT.wC ht hs (fun A' Q' E' q'=>HT.iG hs pl pu q') (fun _=>⟨.ref a,H,I,rfl,q1 e⟩) fun hn=>(hn ?_).elim
  rw [hlen,hw.1,hw.2]
  simp
 ·exact Hf aq s σ H _ v vl vu lo hi sl Q I rx hs pl pu ⟨a,xs,rfl,hx,hw,q2⟩
theorem rA:∀ {ts:List Str},(∀ t∈ts,t.length≤k)->piled ts≤ts.length*(k+2)
 |[],_=>by simp [piled]
 | t::r,h=>by
   have h1:=h t (by simp)
   have h2:=rA (ts:=r) (fun x hx=>h x (by simp [hx]))
   have e:piled (t::r)=t.length+2+piled r:=by simp [piled]
   rw [e,List.length_cons,Nat.succ_mul]
   lia
theorem yR (h:∀ t∈ts,t.length≤k):(tupleText ts).length≤ts.length*(k+2)+3:=by
 have h1:=rA h
 have h2:(Str.join ", " ts).length≤piled ts:=by
  by_cases e:ts=[]
  ·subst e;exact Nat.zero_le _
  ·have:=join_length_add ts e;lia
 have e1:((("(" : String):Str)).length=1:=rfl
 unfold tupleText
 rw [strLen_append,strLen_append,e1]
 split
 ·have e2:((((",)" : String)):Str)).length=2:=rfl
  rw [e2];lia
 ·have e2:((((")" : String)):Str)).length=1:=rfl
  rw [e2];lia
structure Dp (d:PyData):Prop where
 sh:d.showable=true
 nd:d.hasDict=false
 dp:d.depth≤40
 sz:d.shown.length≤sizeLine
noncomputable def Kc:V->Bool
 |.ref _=>true
 |.str _=>true
 |_=>false
noncomputable def yf (K:PySem.W.Frag):List V->Hp->VK->Prop:=fun xs H Q=>∃ x d,xs=[x]/\Kc x=true/\Rep K H x d/\Dp d/\Q (.str d.shown) H
theorem tG (hu:X.A.units+64<cLine) (hg:X.A.guards=some []):gD X (.builtin "repr") (yf X.K):=by
 intro aq s σ H xs us Q I r h
 obtain ⟨x,d,rfl,ho,hr,sd,q⟩:=h
 obtain ⟨u,rfl,e⟩:=vals1 r
 have dp:=sd.dp
 match x,ho,hr,e with
 | .ref a,_,hr,e=>
   cases (show u=Value.ref a from e)
   obtain ⟨as,rd⟩:=I.reads hr rfl
   exact repr_of_reads' rd sd.sh (PyData.noDict_hsm sd.nd) hg (by lia) (fun _ _ z=>z) (fun h' t tk hk=>⟨.str d.shown,H,I.kept hk,⟨_,rfl⟩,q⟩) sd.sz
 | .str z,_,hr,e=>
   obtain ⟨t,rfl⟩:=e
   cases hr
   exact P.repr_of_str ⟨.str (reprText z),H,I.tok _,⟨_,rfl⟩,q⟩ sd.sz
theorem Inv.turnLaid {X:Cx} {s:Shared} {h':Heap} {a:Addr} {o:HO} {t':Nat} {fp:List Addr} (I:Inv X aq σ H s) (k:∀ b u,b∉fp->s.heap.get? b=some u->h'.get? b=some u) (ke:∀ b∈fp,∃ u,h'.get? b=some u) (hf:∀ b∈fp,kE X aq H b) (hp:s.heap.objs.size≤a) (new:dm X.prog X.w (upd H a o) h' a o) :
 Inv X aq σ (upd H a o) { s with heap:=h',toks:=t' }:=by
 have hn:H a=none:=I.hok.fresh hp
 have off:∀ b u,H b=some u->b∉fp:=fun b u e z=>by rw [(hf b z).1] at e;cases e
 have up:∀ b u,H b=some u->(upd H a o) b=some u:=fun b u e=>by rw [aX (aR e hn)];exact e
 refine I.step (g':=s.gens) (d':=s.drawn) (ch:=fp) (fun b hb=>?_) (fun b u _ _ hc e _=>k b u hc e) (fun b u _ _ hc e _=>⟨u.slots,k b u hc e⟩) (fun b u _ e n=>?_) (fun b u hc e=>⟨u,k b u hc e⟩) (fun b xs e=>up b _ e) (fun b u z e=>up b _ e) (fun b ps e=>⟨#[],by rw [up b _ e];simp⟩) (fun m hm=>?_) (fun b u e=>?_) I.bare
 ·obtain ⟨_,f1,_,f3,f4,f5⟩:=hf b hb
  exact ⟨f3,f1,f4,f5⟩
 ·rw [aX (Nat.ne_of_lt (Nat.lt_of_lt_of_le (Heap.lt_size e) hp))];exact n
 ·obtain ⟨u,es,ep,ho,r⟩:=hm
  exact ⟨u,es,ep,k _ u (fun z=>(hf _ z).2.1 rfl) ho,r⟩
 ·by_cases hb:b=a
  ·subst hb;rw [au] at e;cases e;exact new
  ·rw [aX hb] at e
   refine (I.hok b u e).stay (fun c v hc q=>k c v ?_ q) (fun c q=>up c _ q) fun c xs q=>up c _ q
   rcases hc with rfl|z
   ·exact off _ u e
   ·exact off c _ z
theorem gZ (hit:s.heap.IsTupleIter it l i) (hl:s.heap.IsTuple l items) (hx:items[i]?=some x)
 (hQ:∀ g,g.IsTupleIter it l (i+1)->Heap.SameBut it s.heap g->Q x { s with heap:=g }):wpAny (model prog w) A (Builtin.SmallTypes.nextOf (.ref it)) Q E s:=by
 obtain ⟨o,ho,hc,hd⟩:=id hit
 obtain ⟨ol,hol,_,nl,hdl⟩:=hl
 unfold Builtin.SmallTypes.nextOf
 refine wpAny_bind (wpAny_callSpecial?_slot (name:=Str.ofString "__next__") hit.typeIs F.slot_tuple_iterator_next (wpAny_call_entry F.slot_tuple_iterator_next hit.typeIs F.entry_tuple_iterator_next ?_ (F.args_tuple_iterator_next_1 _)))
 show wpAny _ _ (field (.ref it) 0 >>= _) _ _ s
 refine wpAny_bind (wpAny_field ho hd (x:=.ref l) rfl ?_)
 show wpAny _ _ (if (Value.ref l == Value.none)=true then _ else _) _ _ s
 rw [if_neg (show ¬ ((Value.ref l == Value.none)=true) from nofun)]
 show wpAny _ _ (field (.ref it) 1 >>= _) _ _ s
 refine wpAny_bind (wpAny_field ho hd (x:=.int i 0) rfl ?_)
 show wpAny _ _ (seqItems? (.ref l) >>= _) _ _ s
 refine wpAny_bind (wpAny_seqItems hol hdl ?_)
 simp only [Int.toNat_natCast,hx]
 refine wpAny_bind (wpAny_setField ho hd (by simp) (wpAny_pure ⟨x,rfl,wpAny_pure (hQ _ ⟨_,Heap.get?_update_self _ ho (Obj.isFreed_of_fields (Obj.data_mapFields hd _)),(Obj.cls_mapFields ..).trans hc,by rw [Obj.data_mapFields hd];simp [rawInt]⟩ (Heap.SameBut.update ..))⟩))
theorem gV (hh:A.handled=none) (hit:s.heap.IsTupleIter it l i) (hl:s.heap.IsTuple l items) (hx:items[i]?=none)
 (hE:∀ g e,Heap.ExtBut it s.heap g->(∃ o,g.get? e=some o/\o.cls=.type "StopIteration")->E (.ref e) { s with heap:=g }):wpAny (model prog w) A (Builtin.SmallTypes.nextOf (.ref it)) Q E s:=by
 obtain ⟨o,ho,hc,hd⟩:=id hit
 obtain ⟨ol,hol,_,nl,hdl⟩:=hl
 unfold Builtin.SmallTypes.nextOf
 refine wpAny_bind (wpAny_callSpecial?_slot (name:=Str.ofString "__next__") hit.typeIs F.slot_tuple_iterator_next (wpAny_call_entry F.slot_tuple_iterator_next hit.typeIs F.entry_tuple_iterator_next ?_ (F.args_tuple_iterator_next_1 _)))
 show wpAny _ _ (field (.ref it) 0 >>= _) _ _ s
 refine wpAny_bind (wpAny_field ho hd (x:=.ref l) rfl ?_)
 show wpAny _ _ (if (Value.ref l == Value.none)=true then _ else _) _ _ s
 rw [if_neg (show ¬ ((Value.ref l == Value.none)=true) from nofun)]
 show wpAny _ _ (field (.ref it) 1 >>= _) _ _ s
 refine wpAny_bind (wpAny_field ho hd (x:=.int i 0) rfl ?_)
 show wpAny _ _ (seqItems? (.ref l) >>= _) _ _ s
 refine wpAny_bind (wpAny_seqItems hol hdl ?_)
 simp only [Int.toNat_natCast,hx]
 refine wpAny_bind (wpAny_rule (wpAny_bind (wpAny_setField ho hd (by simp) ?_)))
 show wpAny _ _ (newExc (.type "StopIteration") [] >>= _) _ _ _
 refine wpAny_bind ?_
 simp only [newExc,newTuple]
 refine wpAny_bind (wpAny_newObj_type ?_ (by size_fits))
 refine wpAny_bind (m:=firstArgMember _ _) (wpAny_of_eq (a:=Value.none) (by first|rfl|(simp only [firstArgMember];rfl)) (wpAny_newObj_type ?_ (by size_fits)))
 simp only [raiseNew]
 refine wpAny_bind (wpAny_handled ?_)
 first|rw [show A.in1.handled=none from hh]|rw [hh]
 exact wpAny_bind (wpAny_pure (wpAny_throw (hE _ _ (((Heap.SameBut.update ..).extBut.push _).push _) ⟨_,Heap.get?_push_size _ rfl,rfl⟩)))
theorem Fw (hh:A.handled=none) (it l:Addr) (hne:l≠it) (items:Array Value):Draws prog w A it [it,l] items.size (fun i v=>items[i]?=some v) (fun i h=>h.IsTupleIter it l i/\h.IsTuple l items) where
 live:=fun _ _ st=>let ⟨o,ho,_⟩:=st.1;⟨o,ho⟩
 frame:=fun _ _ _ st hk=>⟨st.1.at fun o e=>hk it (by simp) o e,let ⟨o,e,r⟩:=st.2;⟨o,hk l (by simp) o e,r⟩⟩
 item:=fun i s Q E hi st hQ=>gZ st.1 st.2 (x:=items[i]) (by simp [hi]) fun g g1 g2=>hQ _ g s.toks (by simp [hi]) ⟨g1,let ⟨o,e,r⟩:=st.2;⟨o,(g2.2 l hne).trans e,r⟩⟩ g2
 done:=fun s Q E st hE=>gV hh st.1 st.2 (by simp) hE
theorem xx (l:Addr) (items:Array Value) (n:Nat) (dct:Option Addr) (sl:Array (Option Value)) :
 Meets (Builtin.«enumerate.__new__» ⟨[.type "enumerate",.ref l],[]⟩) (fun _ R s=>s.heap.get? l=some { cls:=.type "tuple",dict:=dct,data:=.seq items n,slots:=sl }/\
  R (.ok (.ret (.ref (s.heap.push { cls:=.type "tuple_iterator",data:=.fields #[.ref l,.int 0 0] }).objs.size)))
    { s with heap:=(s.heap.push { cls:=.type "tuple_iterator",data:=.fields #[.ref l,.int 0 0] }).push { cls:=.type "enumerate",data:=.fields #[.none,.bool false,.ref s.heap.objs.size,rawInt 0,.none,.none] } }):=
 .of_wp fun prog w A R s h=>by
  obtain ⟨hp,g,d,tk,os⟩:=s
  obtain ⟨hl,h⟩:=h
  have hsub:=sub_enumerate
  have hL:Heap.IsTuple (Shared.heap ⟨hp,g,d,tk,os⟩) l items:=⟨_,hl,rfl,n,rfl⟩
  wp_walk using AutoSeq1.wpAny_loadPart' hl
  refine wpAny_stack_any fun st=>wpAny_pure ?_
  split
  ·rename_i c _ _ _ _ _
   cases (c == Value.type "enumerate") <;> (wp_walk using AutoSeq1.wpAny_loadPart' hl,wpAny_pyIter_tuple hL;exact ⟨_,rfl,h⟩)
  ·wp_walk using AutoSeq1.wpAny_loadPart' hl,wpAny_pyIter_tuple hL
   exact ⟨_,rfl,h⟩
theorem um (hL:s.heap.IsTuple l items)
 (h:∀ g,IsEnum g (s.heap.objs.size+1) s.heap.objs.size 0 .none->g.IsTupleIter s.heap.objs.size l 0->(∀ b o,s.heap.get? b=some o->g.get? b=some o)->Q (.ref (s.heap.objs.size+1)) { s with heap:=g }):wpAny (model prog w) A (call (.type "enumerate") [.ref l]) Q E s:=by
 obtain ⟨⟨_,dd,_,sl⟩,ho,rfl,n,rfl⟩:=id hL
 refine callType_new F.called_enumerate (by decide) (F.typeCall_enumerate_1 _) (F.newCall_enumerate_1 _) (fun obj=>F.args_object_init_2 obj _) F.entry_enumerate_new (xx l items n dd sl) ⟨ho,?_⟩
 have hz:(s.heap.push { cls:=.type "tuple_iterator",data:=.fields #[.ref l,.int 0 0] }).objs.size=s.heap.objs.size+1:=Heap.size_push ..
 have he:=Heap.get?_push_size (s.heap.push { cls:=.type "tuple_iterator",data:=.fields #[.ref l,.int 0 0] }) (o:={ cls:=.type "enumerate",data:=.fields #[.none,.bool false,.ref s.heap.objs.size,rawInt 0,.none,.none] }) rfl
 rw [hz] at he
 show _/\_
 rw [hz]
 exact ⟨⟨_,he,rfl⟩,h _ he ⟨_,Heap.get?_push_of_some _ (Heap.get?_push_size _ rfl),rfl,rfl⟩ fun b o x=>Heap.get?_push_of_some _ (Heap.get?_push_of_some _ x)⟩
noncomputable def JS (K:PySem.W.Frag) (a:Addr):It:=
 ⟨fun i H=>∃ xs x,bD K H a xs/\xs[i]?=some x,fun i H v H'=>∃ p x,H p=none/\v=.ref p/\(∀ xs,bD K H a xs->xs[i]?=some x)/\H'=upd H p (.tup [.int i,x]),fun i H=>∃ xs,bD K H a xs/\xs.length≤i⟩
theorem sX {P:Program} {w:World} {K:PySem.W.Frag} {elts:List Expr} {k1} {pos:Pos} (a e it:Addr) (hei:e≠it):Turn P w K (.Tuple elts k1 pos) (JS K a) [e,it] e (fun i h=>(∃ old,IsEnum h e it i old)/\h.IsTupleIter it a i) where
 mem:=by simp
 obj:=fun i h st b hb=>by
  obtain ⟨⟨old,h1⟩,o,h2,_,h3⟩:=st
  rcases List.mem_cons.mp hb with rfl|hb
  ·exact ⟨_,h1,fun v z=>by cases (show Data.fields _=Data.cell v from z)⟩
  ·cases List.mem_singleton.mp hb
   exact ⟨o,h2,fun v z=>by rw [h3] at z;cases z⟩
 keep:=fun i h h' st k=>⟨let ⟨old,h1⟩:=st.1;⟨old,k e (by simp) _ h1⟩,st.2.at fun o z=>k it (by simp) o z⟩
 item:=by
  intro X hP hw hK hc i aq s σ H E I hf st hg
  subst hP hw hK
  obtain ⟨xs,x,hq,hx⟩:=hg
  obtain ⟨its,rv,p,hz⟩:=I.tuple hq
  obtain ⟨u,hu,ru⟩:=rv.get hx
  obtain ⟨⟨old,he⟩,ht⟩:=st
  have hit:s.heap.IsTuple a its.toArray:=p
  have han:a≠it:=by
   rintro rfl
   obtain ⟨o1,h1,h2,_⟩:=id hit
   obtain ⟨o2,h3,h4,_⟩:=id ht
   rw [h1] at h3;cases h3
   rw [h2] at h4;exact absurd (Value.type.inj h4) (by decide)
  have hae:a≠e:=by
   rintro rfl
   obtain ⟨o1,h1,h2,_⟩:=id hit
   rw [he] at h1;cases h1
   exact absurd (Value.type.inj h2) (by decide)
  have D:=Fw (prog:=X.prog) (w:=X.w) (A:=X.A.in1) (I.ok.hd hc) it a han its.toArray
  have hlt:i<its.toArray.size:=by
   have:=(List.getElem?_eq_some_iff.mp hx).1
   have hl:=rv.length
   rw [List.size_toArray];lia
  refine wpAny_pyNext_enum_itemD D he ⟨ht,hit⟩ hlt hei (by simp [hei,Ne.symm hae]) fun y g tk hy ho hst' htup hsz hk=>?_
  have e1:y=u:=by
   have:its.toArray[i]?=some u:=by simpa using hu
   rw [this] at hy;exact (Option.some.inj hy).symm
  subst e1
  refine ⟨_,rfl,?_⟩
  have helt:e<s.heap.objs.size:=Heap.lt_size he
  have hilt:it<s.heap.objs.size:=let ⟨o,z,_⟩:=ht;Heap.lt_size z
  have I1:Inv X aq σ (upd H s.heap.objs.size (.tup [.int i,x])) { s with heap:=g,toks:=tk+1 }:=by
   refine I.turnLaid (fp:=[e,it]) (fun b o hb z=>hk b o (fun q=>hb (by simp [q])) (fun q=>hb (by simp [q])) z) (fun b hb=>?_) hf (Nat.le_refl _) ?_
   ·rcases List.mem_cons.mp hb with rfl|hb
    ·exact ⟨_,ho⟩
    ·cases List.mem_singleton.mp hb
     exact let ⟨o,z,_⟩:=hst'.1;⟨o,z⟩
   ·exact ⟨by show 2≤sizeLine;decide,[.int i tk,y],.cons ⟨_,rfl⟩ (.cons ru .nil),⟨_,htup,rfl,_,rfl⟩⟩
  have hno:∀ b∈[e,it],(upd H s.heap.objs.size (.tup [.int i,x])) b=none:=fun b hb=>by
   have hbl:b<s.heap.objs.size:=by
    rcases List.mem_cons.mp hb with rfl|hb
    ·exact helt
    ·cases List.mem_singleton.mp hb;exact hilt
   rw [aX (Nat.ne_of_lt hbl)]
   exact (hf b hb).1
  refine wpAny_letOwnedTupleGo_enum ho fun g2 he2 hs2=>?_
  obtain ⟨f0,f1,f2,f3,f4,f5⟩:=hf e (by simp)
  refine ⟨.ref s.heap.objs.size,_,I1.turned (t':=tk+1) (fun b o hb z=>(hs2.2 b hb).trans z) (hno e (by simp)) f1 f3 f4 f5,rfl,⟨s.heap.objs.size,x,I.hok.fresh (Nat.le_refl _),rfl,fun ys hy=>by rw [I.tuple_inj hy hq];exact hx,rfl⟩,⟨⟨_,by simpa using he2⟩,?_⟩,hno⟩
  exact hst'.1.at fun o z=>(hs2.2 it (Ne.symm hei)).trans z
 done:=by
  intro X hP hw hK hc i aq s σ H E I hf st hg
  subst hP hw hK
  obtain ⟨xs,hq,hx⟩:=hg
  obtain ⟨its,rv,p,hz⟩:=I.tuple hq
  obtain ⟨⟨old,he⟩,ht⟩:=st
  obtain ⟨f0,f1,f2,f3,f4,f5⟩:=hf it (by simp)
  have hl:=rv.length
  have hT:s.TypeIs (.ref e) "enumerate":=⟨_,he,rfl⟩
  unfold pyNext
  refine wpAny_bind (wpAny_attempt (wpAny_callSpecial?_slot (name:=Str.ofString "__next__") hT F.slot_enumerate_next (wpAny_call_entry F.slot_enumerate_next hT F.entry_enumerate_next ?_ (F.args_enumerate_next_1 _))))
  show wpAny _ _ (field (.ref e) 2 >>= _) _ _ _
  refine wpAny_bind (wpAny_field he rfl (x:=.ref it) rfl (wpAny_bind (gV (A:=X.A.in1) (I.ok.hd hc) ht (show s.heap.IsTuple a its.toArray from p) (by simp;lia) fun g x ex hx'=>?_)))
  obtain ⟨o,ho,hcl⟩:=hx'
  exact wpAny_bind (wpAny_isInstance (T:="StopIteration") (b:=true) ⟨o,ho,hcl⟩ isSubtype_stop (wpAny_pure ⟨rfl,I.turned (t':=s.toks) (fun b o hb e=>ex b o hb e) f0 f1 f3 f4 f5⟩))
 self:=fun _ _ _ _ _ st h=>let ⟨_,he⟩:=st.1;wpAny_pyIter_enum he h
noncomputable def Lp (K:PySem.W.Frag) (ta:TA):TI:=fun σ H R=>ta σ H fun vs H1=>∃ a,vs=[.ref a]/\(∃ xs,bD K H1 a xs)/\R (JS K a) H1
theorem Al {X:Cx} {elts:List Expr} {k1} {pt:Pos} {a:Expr} {ta:TA} {p pos:Pos} (hg:Gl X "enumerate") (hm:X.mg "enumerate" = none) (hv:bootBuiltins "enumerate" = some (.type "enumerate")) (ha:PA X [a] ta) (hs:starEach [a] X.env=[(false,eval a X.env)]:=by rfl):PI X (.Tuple elts k1 pt) (.Call (.Name "enumerate" p) [a] [] pos) (Lp X.K ta):=by
 intro aq s σ H R I h
 refine Call_ (gG I hg hm hv (PyProof.Rows.callWith_type1 (cI (ha pos aq s σ H _ I h) fun us s1 ⟨vs,H1,I1,r1,q1⟩=>?_) hs rfl))
 obtain ⟨l,rfl,⟨xs,hq⟩,q⟩:=q1
 obtain ⟨u,rfl,e⟩:=vals1 r1
 cases (show u=Value.ref l from e)
 obtain ⟨its,rv,hp,hz⟩:=I1.tuple hq
 refine um (show s1.heap.IsTuple l its.toArray from hp) fun g he hi hk=>wpAny_pyIter_enum he ?_
 refine ⟨s1.heap.objs.size+1,[s1.heap.objs.size+1,s1.heap.objs.size],_,_,H1,rfl,I1.kept (t':=s1.toks) hk,sX l _ s1.heap.objs.size (Nat.succ_ne_self _),⟨⟨_,he⟩,hi⟩,fun b hb=>?_,q⟩
 rcases List.mem_cons.mp hb with rfl|hb
 ·exact I1.fpOk (Nat.le_succ _) (I1.hok.fresh (Nat.le_succ _))
 ·cases List.mem_singleton.mp hb
  exact I1.fpOk (Nat.le_refl _) (I1.hok.fresh (Nat.le_refl _))
theorem xJ {K:PySem.W.Frag} {a:Addr} {xs:List V} {g:TG} {tb:TS} {D:Ends} {σ:St} {H:Hp} (Pv:Nat->St->Hp->Prop) (h0:Pv 0 σ H) (hl:∀ i σ H,i≤xs.length->Pv i σ H->bD K H a xs)
 (hs:∀ i x σ H p,xs[i]?=some x->Pv i σ H->H p=none->g (.ref p) σ (upd H p (.tup [.int i,x])) fun σ2 H2=>tb { D with nx:=Pv (i+1),ct:=Pv (i+1),bk:=D.nx } σ2 H2)
 (hd:∀ σ H,Pv xs.length σ H->D.nx σ H) :
 ∃ W:Nat->Nat->St->Hp->Prop,(∃ m,W 0 m σ H)/\∀ i m σ H,W i m σ H->((JS K a).stop i H/\D.nx σ H)∨((JS K a).go i H/\∃ N:St->Hp->Prop,(∀ σ' H',N σ' H'->∃ m',m'<m/\W (i+1) m' σ' H')/\∀ x H',(JS K a).yld i H x H'->g x σ H' fun σ2 H2=>tb { D with nx:=N,ct:=N,bk:=D.nx } σ2 H2):=by
 refine ⟨fun i m σ H=>m=xs.length-i/\i≤xs.length/\Pv i σ H,⟨xs.length,by simp,Nat.zero_le _,h0⟩,?_⟩
 rintro i m σ H ⟨rfl,hi,p⟩
 have q:=hl i σ H hi p
 by_cases hlt:i<xs.length
 ·refine .inr ⟨⟨xs,xs[i],q,by simp [hlt]⟩,Pv (i+1),fun σ' H' z=>⟨xs.length-(i+1),by lia,rfl,hlt,z⟩,?_⟩
  rintro x H' ⟨p',y,hn,rfl,hy,rfl⟩
  exact hs i y σ H p' (hy xs q) p hn
 ·have e:i=xs.length:=by lia
  subst e
  exact .inl ⟨⟨xs,q,Nat.le_refl _⟩,hd σ H p⟩
theorem gP:bootBuiltins "enumerate" = some (.type "enumerate"):=by ext
end L2
namespace L2
open PySem PySem.Spec PyProof.Rows PySem.SeqAt PySem.W
end L2
namespace L2
open PySem PySem.Spec PyProof.Rows PySem.SeqAt PySem.W Builtin.ObjectAttr
end L2
namespace L2
open PySem PySem.Spec PyProof.Rows
end L2
namespace L2
open PySem PySem.Spec PyProof.Rows PySem.SeqAt PySem.W Builtin.ObjectAttr
end L2
namespace L2
open PySem PySem.Spec PyProof.Rows
end L2
namespace L2
open PySem PySem.Spec PyProof.Rows PySem.W
end L2
namespace L2
open PySem PySem.Spec PyProof.Rows
end L2
namespace L2
open PySem PySem.Spec PyProof.Rows PySem.W
end L2
namespace L2
open PySem PySem.Spec PyProof.Rows PySem.SeqAt
noncomputable def B_:V->List V->Hp->VK->Prop:=fun x vs H Q=>∃ (l:Addr) (xs:List V) (k:Nat) (y:V),x=.ref l/\vs=[.int k,y]/\H l=some (.lst xs)/\k≤xs.length/\xs.length<1000000/\Q .non (upd H l (.lst (xs.take k++y::xs.drop k)))
theorem xO:HX X "list.insert" B_:=by
 intro aq s σ H x vs v us Q I rx rv h
 obtain ⟨l,xs,k,y,rfl,rfl,hH,hk,hz,q⟩:=h
 cases rx
 cases rv with
 |cons r1 rv=>
  cases rv with
  |cons ru rv=>
   cases rv
   rename_i u
   obtain ⟨t,rfl⟩:=r1
   obtain ⟨z,its,n,r,hl,e⟩:=I.lstM hH
   have big:1000000≤sizeLine:=by decide
   have fit:¬ (!Builtin.List.listFitsIndex (k:Int))=true:=by
    rw [fitsIndex_both (by lia) (by lia)]
    decide
   have hsz:its.toArray.size≤sizeLine:=by rw [List.size_toArray];lia
   generalize hi:(k:Int)=i at fit
   refine call_meets F.slot_list_insert ⟨_,e,rfl⟩ F.entry_list_insert (F.args_list_insert_3 (.ref l) (.int i t) u) (AutoListH.list_insert_list_int_val_1 l its.toArray n i t u fit hsz) ⟨e,?_⟩
   subst hi
   have rt:Vals (xs.take k) (its.take k)/\Vals (xs.drop k) (its.drop k):=by
    clear hz q e hH hk hl z hsz fit
    induction r generalizing k with
    |nil=>rw [List.take_nil,List.take_nil,List.drop_nil,List.drop_nil];exact ⟨.nil,.nil⟩
    | cons a b ih=>
      cases k with
      |zero=>exact ⟨.nil,.cons a b⟩
      |succ k=>exact ⟨.cons a (ih (k:=k)).1,(ih (k:=k)).2⟩
   refine ⟨.non,_,I.lset (its':=its.take k++u::its.drop k) hH e ?_ (rt.1.append (.cons ru rt.2)) ?_,rfl,q⟩
   ·have h1:min (k:Int).toNat its.toArray.size=k:=by rw [List.size_toArray,Int.toNat_natCast];lia
    show ((its.toArray.extract 0 (if (k:Int)<0 then ((k:Int)+((its.toArray.size:Nat):Int)).toNat else min (k:Int).toNat its.toArray.size)).push u++its.toArray.extract (if (k:Int)<0 then ((k:Int)+((its.toArray.size:Nat):Int)).toNat else min (k:Int).toNat its.toArray.size))=_
    rw [if_neg (by lia),h1]
    apply Array.ext'
    simp
    exact List.take_of_length_le (by rw [List.length_drop];lia)
   ·rw [List.length_append,List.length_cons,List.length_take,List.length_drop]
    lia
noncomputable def O2 (x:Str):It:=⟨fun i _=>i<x.cps.size,fun i H v H'=>H'=H/\∃ c,x.cps[i]?=some c/\v=.str ⟨#[c]⟩,fun i _=>x.cps.size≤i⟩
theorem zc {P:Program} {w:World} {K:PySem.W.Frag} {tg:Expr} (x:Str) (t:Tok) (it:Addr):Turn P w K tg (O2 x) [it] it (fun i h=>h.IsStrIter it "str_ascii_iterator" x t i) where
 mem:=by simp
 obj:=fun i h st b hb=>by
  have e:b=it:=by simpa using hb
  subst e
  obtain ⟨o,e,c,d⟩:=st
  exact ⟨o,e,fun v z=>by rw [d] at z;cases z⟩
 keep:=fun i h h' st k=>let ⟨o,e,r⟩:=st;⟨o,k it (by simp) o e,r⟩
 item:=by
  intro X hP hw hK hc i aq s σ H E I hf st hg
  subst hP hw hK
  obtain ⟨f0,f1,f2,f3,f4,f5⟩:=hf it (by simp)
  have hg':i<x.cps.size:=hg
  have hx:x.cps[i]?=some (x.cps[i]'hg'):=Array.getElem?_eq_getElem hg'
  refine wpAny_pyNext_ascii_item st hx fun h' st' sb=>?_
  have I1:Inv X aq σ H { s with heap:=h',toks:=s.toks+1 }:=I.turned (t':=s.toks+1) (fun b o hb e=>(sb.2 b hb).trans e) f0 f1 f3 f4 f5
  obtain ⟨o,e,c,d⟩:=id st'
  exact ⟨_,rfl,sr (s:={ s with heap:=h',toks:=s.toks+1 }) e c d (by decide) ⟨.str ⟨#[x.cps[i]'hg']⟩,H,I1,⟨_,rfl⟩,⟨rfl,_,hx,rfl⟩,st',fun b hb=>(hf b hb).1⟩⟩
 done:=by
  intro X hP hw hK hc i aq s σ H E I hf st hg
  subst hP hw hK
  obtain ⟨f0,f1,f2,f3,f4,f5⟩:=hf it (by simp)
  have hx:x.cps[i]?=none:=Array.getElem?_eq_none hg
  exact wpAny_pyNext_ascii_end (I.ok.hd hc) st hx fun h' eb=>⟨rfl,I.turned (t':=s.toks) (fun b o hb e=>eb b o hb e) f0 f1 f3 f4 f5⟩
 self:=fun _ _ _ _ _ st h=>wpAny_pyIter_striter_ascii st h
noncomputable def Pb (tl:TE):TI:=fun σ H R=>tl σ H fun v H1=>∃ x,v=.str x/\x.cps.all (·<128)=true/\R (O2 x) H1
theorem GK {l:Expr} {tl:TE} (hl:PE X l tl):PI X tg l (Pb tl):=by
 intro aq s σ H R I h
 refine cI (hl aq s σ H _ I h) fun v s1 ⟨y,H1,I1,r1,x,e,ha,q⟩=>?_
 subst e
 obtain ⟨t,rfl⟩:=r1
 refine wpAny_pyIter_ascii ha ?_
 refine ⟨s1.heap.objs.size,[s1.heap.objs.size],_,_,H1,rfl,I1.kept (t':=s1.toks) fun b o e=>Heap.get?_push_of_some _ e,zc x t _,⟨_,Heap.get?_push_size _ rfl,rfl,rfl⟩,fun b hb=>?_,q⟩
 have e:b=s1.heap.objs.size:=by simpa using hb
 subst e
 exact I1.fpOk (Nat.le_refl _) (I1.hok.fresh (Nat.le_refl _))
theorem zV (Pv:Nat->List V->St->Hp->Prop) (hn:x.cps.size≤sizeLine) (h0:Pv 0 [] σ0 H0)
 (hs:∀ i c ys σ H,x.cps[i]?=some c->ys.length=i->Pv i ys σ H->∀ N:List V->St->Hp->Prop,(∀ ys' σ' H',ys'.length=i+1->Pv (i+1) ys' σ' H'->N ys' σ' H')->g (.str ⟨#[c]⟩) σ H fun σ2 H2=>te σ2 H2 fun y H3=>N (ys++[y]) σ2 H3)
 (hd:∀ ys σ H,ys.length=x.cps.size->Pv x.cps.size ys σ H->F ys H) :
 ∃ W:Nat->Nat->List V->St->Hp->Prop,(∃ m,W 0 m [] σ0 H0)/\ji (O2 x) g wM te F W:=by
 refine ⟨fun i m ys σ H=>m=x.cps.size-i/\i≤x.cps.size/\ys.length=i/\Pv i ys σ H,⟨x.cps.size,by simp,Nat.zero_le _,rfl,h0⟩,?_⟩
 rintro i m ys σ H ⟨rfl,hi,hl,p⟩
 by_cases hlt:i<x.cps.size
 ·refine .inr ⟨hlt,by lia,fun v H' y=>?_⟩
  obtain ⟨e,c,hc,y⟩:=y
  subst e y
  exact hs i c ys σ _ hc hl p (fun ys' σ' H'=>∃ m',m'<x.cps.size-i/\m'=x.cps.size-(i+1)/\i+1≤x.cps.size/\ys'.length=i+1/\Pv (i+1) ys' σ' H') fun ys' σ' H' hl' q=>⟨x.cps.size-(i+1),by lia,rfl,hlt,hl',q⟩
 ·have e:i=x.cps.size:=by lia
  subst e
  exact .inl ⟨Nat.le_refl _,hd ys σ H hl p⟩
noncomputable def NB:V->Option Int->Option Int->Hp->VK->Prop:=fun x lo hi H Q=>∃ z j,x=.str z/\lo=none/\hi=some j/\z.length≤sizeLine/\Q (.str (Txt.slice z none (some j))) H
theorem o6:Jl X NB:=by
 intro aq s σ H x v vl vu lo hi sl Q I rx hs pl pu h
 obtain ⟨z,j,rfl,rfl,rfl,hz,q⟩:=h
 obtain ⟨t,rfl⟩:=rx
 cases pl
 cases pu
 rename_i uj
 refine ⟨"str",_,F.slot_str_getitem.lookup,typeIs_str _ _ _,wpAny_getItem_str_slice (l:=none) (u:=some (j,uj)) (st:=none) ?_ rfl (post_val_or_str ⟨Nat.le_trans (Txt.slice_le z none (some j)) hz,fun t' k=>⟨.str _,H,I.tok _,⟨_,rfl⟩,q⟩⟩)⟩
 exact hs
theorem wW (z:Str) (l u:Option Int):∀ c∈(Txt.slice z l u).cps.toList,c∈z.cps.toList:=by
 intro c hc
 unfold Txt.slice at hc
 split at hc
 ·exact hc
 ·rw [List.toList_toArray] at hc
  obtain ⟨i,_,e⟩:=List.mem_filterMap.mp hc
  rw [← Array.getElem?_toList] at e
  exact List.mem_of_getElem? e
end L2
namespace L2
open PySem PySem.Spec PyProof.Rows PySem.W
end L2
namespace L2
open PySem PySem.Spec PyProof.Rows
end L2
namespace L2
open PySem PySem.Spec PyProof.Rows PySem.SeqAt
theorem JQ {α:Type} {us:List α} (h:us.length=1):∃ a,us=[a]:=List.length_eq_one_iff.mp h
theorem Aw {α:Type} {us:List α} (h:us.length=2):∃ a b,us=[a,b]:=by
 cases us with
 |nil=>cases h
 | cons a r=>
   obtain ⟨b,rfl⟩:=JQ (us:=r) (by simpa using h)
   exact ⟨a,b,rfl⟩
theorem Jd {α:Type} {us:List α} (h:us.length=3):∃ a b c,us=[a,b,c]:=by
 cases us with
 |nil=>cases h
 | cons a r=>
   obtain ⟨b,c,rfl⟩:=Aw (us:=r) (by simpa using h)
   exact ⟨a,b,c,rfl⟩
theorem NP {α:Type} {us:List α} (h:us.length=4):∃ a b c d,us=[a,b,c,d]:=by
 cases us with
 |nil=>cases h
 | cons a r=>
   obtain ⟨b,c,d,rfl⟩:=Jd (us:=r) (by simpa using h)
   exact ⟨a,b,c,d,rfl⟩
end L2
namespace L2
open PySem PySem.Spec PyProof.Rows
theorem lN:∀ {ns:List Int} {us:List Value},Vals (ns.map V.int) us->∃ ps:List (Int×Tok),us=ps.map (fun p=>Value.int p.1 p.2)/\ps.map (·.1)=ns
 |[],_,r=>by rw [List.map_nil] at r;cases r;exact ⟨[],rfl,rfl⟩
 | n::ns,_,r=>by
   rw [List.map_cons] at r
   cases r with
   | cons h t=>
     obtain ⟨tk,rfl⟩:=(show ∃ t,_=Value.int n t from h)
     obtain ⟨ps,e1,e2⟩:=lN t
     exact ⟨(n,tk)::ps,by rw [e1];rfl,by rw [List.map_cons,e2]⟩
theorem numAt_eq {ps:List (Int×Tok)} {ns:List Int} (e:ps.map (·.1)=ns) (h:i<ns.length):numAt ps.toArray i=ns[i]:=by
 subst e
 unfold numAt
 simp at h ⊢
 rw [List.getElem?_eq_getElem h]
 rfl
theorem q_ {ps:List (Int×Tok)}:(ps.map (fun p=>Value.int p.1 p.2)).toArray=intItems ps.toArray:=by
 unfold intItems
 simp
theorem vR (hc:X.calm=true):gD X (.builtin "max") (fun xs H Q=>∃ p ns,xs=[.ref p]/\bF X.K H p (ns.map V.int)/\ns≠[]/\∀ b,b∈ns->(∀ x∈ns,x≤b)->Q (.int b) H):=by
 intro aq s σ H xs us Q I r h
 obtain ⟨p,ns,rfl,hq,hne,q⟩:=h
 obtain ⟨u,rfl,ru⟩:=vals1 r
 cases (show u=Value.ref p from ru)
 obtain ⟨its,rv,pl,hz⟩:=I.list hq
 obtain ⟨ps,rfl,e⟩:=lN rv
 have hl:ps.length=ns.length:=by rw [← e,List.length_map]
 have hpos:0<ns.length:=List.length_pos_iff.mpr hne
 have pl':=pl.isList
 rw [q_] at pl'
 refine max_intList (I.ok.hd hc) pl' (by simp;lia) fun v h' tk hv k=>?_
 have hb:=argBest_gt (numAt ps.toArray) (ps.toArray.size-1)
 generalize argBest (fun i j=>decide (numAt ps.toArray i > numAt ps.toArray j)) (ps.toArray.size-1)=m at hv hb
 have hm:m<ns.length:=by have:=hb.1;simp at this;lia
 obtain ⟨t,rfl⟩:=intItems_at hv
 rw [numAt_eq e hm]
 refine ⟨.int ns[m],H,I.kept k,⟨_,rfl⟩,q _ (List.getElem_mem hm) fun x hx=>?_⟩
 obtain ⟨j,hj,rfl⟩:=List.getElem_of_mem hx
 have:=hb.2 j (by simp;lia)
 rw [numAt_eq e hj,numAt_eq e hm] at this
 exact this
theorem nZ {K:PySem.W.Frag} {a:Addr} {xs:List V} {g:TG} {tt:TT} {te:TE} {F:List V->Hp->Prop} {σ0:St} {H0:Hp} (Pv:Nat->List V->St->Hp->Prop) (hn:xs.length≤sizeLine) (h0:Pv 0 [] σ0 H0) (hq:∀ i ys σ H,i≤xs.length->Pv i ys σ H->bF K H a xs)
 (hs:∀ i x ys σ H,xs[i]?=some x->Pv i ys σ H->∀ N:List V->St->Hp->Prop,(∀ ys' σ' H',Pv (i+1) ys' σ' H'->ys'.length≤ys.length+1->N ys' σ' H')->g x σ H fun σ2 H2=>tt σ2 H2 fun b H3=>if b=true then te σ2 H3 fun y H4=>N (ys++[y]) σ2 H4 else N ys σ2 H3)
 (hd:∀ ys σ H,ys.length≤xs.length->Pv xs.length ys σ H->F ys H) :
 ∃ W:Nat->Nat->List V->St->Hp->Prop,(∃ m,W 0 m [] σ0 H0)/\ji (Hy K a) g tt te F W:=by
 refine ⟨fun i m ys σ H=>m=xs.length-i/\i≤xs.length/\ys.length≤i/\Pv i ys σ H,⟨xs.length,by simp,Nat.zero_le _,Nat.zero_le _,h0⟩,?_⟩
 rintro i m ys σ H ⟨rfl,hi,hl,p⟩
 have q:=hq i ys σ H hi p
 by_cases hlt:i<xs.length
 ·refine .inr ⟨⟨xs,xs[i],q,by simp [hlt]⟩,by lia,fun x H' y=>?_⟩
  obtain ⟨e,y⟩:=y
  subst e
  refine hs i x ys σ _ (y xs q) p (fun ys' σ' H'=>∃ m',m'<xs.length-i/\m'=xs.length-(i+1)/\i+1≤xs.length/\ys'.length≤i+1/\Pv (i+1) ys' σ' H') fun ys' σ' H' q hl'=>⟨xs.length-(i+1),by lia,rfl,hlt,by lia,q⟩
 ·have e:i=xs.length:=by lia
  subst e
  exact .inl ⟨⟨xs,q,Nat.le_refl _⟩,hd ys σ H hl p⟩
end L2
namespace L2
open PySem PySem.Spec PyProof.Rows PySem.SeqAt
noncomputable def mH (t:TE) (σ:St) (H:Hp) (v:V):Prop:=∀ Q:VK,Q v H->t σ H Q
noncomputable def Aq (t:TT) (σ:St) (H:Hp) (b:Bool):Prop:=∀ Q:Bool->Hp->Prop,Q b H->t σ H Q
noncomputable def Ar (r:R2) (x y:V) (H:Hp) (v:V):Prop:=∀ Q:VK,Q v H->r x y H Q
theorem mH.var (h:σ[i]?=some (some v)):mH (kh i) σ H v:=fun Q q=>⟨v,h,q⟩
theorem mH.con:mH (tC v) σ H v:=fun Q q=>q
theorem mH.neg (a:mH ta σ H (.int i)):mH (PJ (rU fun i=>.int (-i)) ta) σ H (.int (-i)):=fun Q q=>a _ ⟨i,rfl,q⟩
theorem Ar.i0:Ar (Av g) (.int i) (.int j) H (g i j):=fun Q q=>⟨i,j,rfl,rfl,q⟩
theorem Aq.test (a:mH t σ H (.bl k)):Aq (uL t) σ H k:=fun Q q=>a _ ⟨k,rfl,q⟩
theorem mH.chain (a:mH ta σ H x) (b:mH tb σ H y) (c:mH tc σ H z) (h:Ar r x y H (.bl k)) (h':Ar r' y z H (.bl k')):mH (uA r r' ta tb tc) σ H (.bl (k && k')):=fun Q q=>a _ (b _ (h _ ⟨k,rfl,by
 cases k with
 |false=>exact bJ rfl q
 |true=>exact b_ rfl (c _ (h' _ q))⟩))
theorem Aq.not (a:Aq t σ H k):Aq (Lk t) σ H (!k):=fun Q q=>a _ q
theorem Aq.iff (h:Aq t σ H k) (q:if k=true then a D σ H else b D σ H):K4 t a b D σ H:=h _ q
noncomputable def Pu (K:PySem.W.Frag):R2:=fun x y H Q=>∃ d e,Rep K H x (.list d)/\Rep K H y (.list e)/\bB d≤60/\Q (.bl (!cZ d e)) H
theorem Gh (hu:X.A.units+64<cLine):iI X (compareOp .NotEq) (Pu X.K):=by
 intro aq s σ H x y v u Q I rx ry h
 obtain ⟨d,e,h1,h2,hd,q⟩:=h
 cases h1 with
 | lst g1 rs1=>
   cases h2 with
   | lst g2 rs2=>
     cases (show v=Value.ref _ from rx)
     cases (show u=Value.ref _ from ry)
     obtain ⟨its1,rv1,p1,_⟩:=I.list g1
     obtain ⟨its2,rv2,p2,_⟩:=I.list g2
     have hz:=vB (X:=X) (H:=H) (A:=X.A) rs1 rs2 rv1 rv2
     by_cases hs:its1.toArray.size=its2.toArray.size
     ·have hw:=RcNeAt.lists (A:=X.A) p1.isList p2.isList hs (by lia)
       (e:=fun j=>bV (d.getD j .none) (e.getD j .none)) (fun j h1 h2=>by simpa using j_ I rs1 rs2 rv1 rv2 (A:=X.A.in1) (by show X.A.units+1+_<_;lia) j (by simpa using h1) (by simpa using h2))
      rw [← hs,Nat.min_self,beq_self_eq_true,Bool.and_true] at hz
      rw [hz] at hw
      exact hw _ _ _ _ ⟨.bl _,H,I,rfl,q⟩
     ·have hw:=RcNeAt.lists_lengths (A:=X.A) p1.isList p2.isList (by simpa using hs) (by lia)
      have:cZ d e=false:=by
       rw [← hz,beq_eq_false_iff_ne.mpr hs,Bool.and_false]
      rw [this] at q
      exact hw _ _ _ _ ⟨.bl _,H,I,rfl,q⟩
theorem Ho:bootBuiltins "set" = some (.type "set"):=by ext
theorem jq {f:Nat->Int} {ns:List Int} (h:∀ i (hi:i<ns.length),f i=ns[i]):∀ k,k≤ns.length->preSum f k=(ns.take k).sum
 |0,_=>rfl
 | k+1,hk=>by
   have hk':k<ns.length:=hk
   show preSum f k+f k=_
   rw [jq h k (Nat.le_of_lt hk'),h k hk',List.take_add_one,List.getElem?_eq_getElem hk',List.sum_append]
   simp
theorem sum_bound:∀ {ns:List Int},(∀ x∈ns,-B≤x/\x≤B)->0≤B->-(B*ns.length)≤ns.sum/\ns.sum≤B*ns.length
 |[],_,_=>by simp
 | n::ns,h,hB=>by
   have h1:=h n (List.mem_cons_self ..)
   have h2:=sum_bound (ns:=ns) (fun x hx=>h x (List.mem_cons_of_mem _ hx)) hB
   rw [List.sum_cons,List.length_cons,Int.natCast_succ,Int.mul_add,Int.mul_one]
   lia
theorem pX {X:Cx} (hc:X.calm=true):gD X (.builtin "sum") (fun xs H Q=>∃ (p:Addr) (ns:List Int),xs=[.ref p]/\bF X.K H p (ns.map V.int)/\ns.length≤1000/\(∀ x∈ns,-10000000000000≤x/\x≤10000000000000)/\Q (.int ns.sum) H):=by
 intro aq s σ H xs us Q I r h
 obtain ⟨p,ns,rfl,hq,hl,hb,q⟩:=h
 obtain ⟨u,rfl,ru⟩:=vals1 r
 cases (show u=Value.ref p from ru)
 obtain ⟨its,rv,pl,hz⟩:=I.list hq
 obtain ⟨ps,rfl,e⟩:=lN rv
 have hlen:ps.length=ns.length:=by rw [← e,List.length_map]
 have pl':=pl.isList
 rw [q_] at pl'
 have at_:∀ i (hi:i<ns.length),numAt ps.toArray i=ns[i]:=fun i hi=>numAt_eq e hi
 refine sum_intList (I.ok.hd hc) pl' (fun j hj=>?_) fun h' tk t' k=>?_
 ·have hj':j<ns.length:=by simpa [hlen] using hj
  rw [at_ j hj',jq at_ (j+1) hj']
  have b1:=hb _ (List.getElem_mem hj')
  have b2:=sum_bound (B:=10000000000000) (ns:=ns.take (j+1)) (fun x hx=>hb x (List.mem_of_mem_take hx)) (by decide)
  have b3:(ns.take (j+1)).length≤1000:=by rw [List.length_take];lia
  refine ⟨⟨?_,?_⟩,?_,?_⟩ <;> lia
 ·have:preSum (numAt ps.toArray) ps.toArray.size=ns.sum:=by
   rw [List.size_toArray,hlen,jq at_ _ (Nat.le_refl _),List.take_length]
  rw [this]
  exact ⟨.int _,H,I.kept k,⟨_,rfl⟩,q⟩
end L2
namespace L2
open PySem PySem.Spec PyProof.Rows
end L2
namespace L2
open PySem
end L2
namespace L2
open PySem PySem.Spec PyProof.Rows PySem.SeqAt
noncomputable abbrev gA (h:Heap) (z TI TO:Addr) (f0:Value) (b:Bool):Prop:=
 h.get? z=some { cls:=.type "zip",dict:=none,data:=.fields #[f0,.bool b,.bool false,.ref TI,.ref TO],slots:=#[] }
section
variable {prog:Program} {w:World} {A:Around} {E:Value->Shared->Prop} {s:Shared}
theorem wJ (h:Q (s.heap.get? a) s):wpAny (model prog w) A (loadIfAlive a) Q E s:=by
 exact fun _ _ _=>h
theorem qZ {z TI TO:Addr} {f0:Value} {b:Bool} {Q:Bool->Shared->Prop} (hz:gA s.heap z TI TO f0 b) (hf:f0=.none∨∃ a:Int,f0=rawInt a)
 (hT:Q true s) (hF:∀ h',gA h' z TI TO f0 true->Heap.SameBut z s.heap h'->Q false { s with heap:=h' }):wpAny (model prog w) A (Builtin.SmallTypes.ownedTupleIsFree (.ref z)) Q E s:=by
 unfold Builtin.SmallTypes.ownedTupleIsFree
 rcases hf with rfl|⟨a,rfl⟩
 ·exact wpAny_bind (wpAny_field hz rfl (x:=.none) rfl (wpAny_pure hT))
 ·refine wpAny_bind (wpAny_field hz rfl (x:=rawInt a) rfl ?_)
  show wpAny _ _ (loadIfAlive a.toNat >>= _) _ _ _
  refine wpAny_bind (wJ ?_)
  cases hR:s.heap.get? a.toNat with
  |none=>exact wpAny_pure hT
  | some o=>
    show wpAny _ _ (field (.ref z) 1 >>= _) _ _ _
    refine wpAny_bind (wpAny_field hz rfl (x:=.bool b) rfl ?_)
    cases b with
    |true=>exact wpAny_pure (hF s.heap hz (Heap.SameBut.refl ..))
    | false=>
      show wpAny _ _ (setField (.ref z) 1 (.bool true) >>= _) _ _ _
      exact wpAny_bind (wpAny_setField_rec hz (by simp) fun h₁ hz₁ hs₁=>wpAny_pure (hF h₁ hz₁ hs₁))
structure ZS (h:Heap) (z TI TO i1 i2 a1 a2:Addr) (k1 k2:Nat):Prop where
 zz:∃ f0 b,gA h z TI TO f0 b/\(f0=.none∨∃ a:Int,f0=rawInt a)
 ti:IsPair h TI (.ref i1) (.ref i2)
 to:∃ x y,IsPair h TO x y
 h1:h.IsTupleIter i1 a1 k1
 h2:h.IsTupleIter i2 a2 k2
theorem c7 (x:h.IsTupleIter it l i) (hs:Heap.ExtBut c h h') (hc:it≠c):h'.IsTupleIter it l i:=x.at fun o e=>hs _ _ hc e
theorem d7 (x:h.IsTuple l xs) (hs:Heap.ExtBut c h h') (hc:l≠c):h'.IsTuple l xs:=let ⟨o,e,r⟩:=x;⟨o,hs _ _ hc e,r⟩
theorem wO {z TI TO i1 i2 a1 a2:Addr} {k1 k2:Nat} {xs ys:Array Value} {x y:Value} {Q:Value->Shared->Prop} (D:ZipApart z TI TO i1 i2 a1 a2) (S:ZS s.heap z TI TO i1 i2 a1 a2 k1 k2)
 (t1:s.heap.IsTuple a1 xs) (t2:s.heap.IsTuple a2 ys) (hx:xs[k1]?=some x) (hy:ys[k2]?=some y)
 (hQ:∀ h',ZS h' z TI TO i1 i2 a1 a2 (k1+1) (k2+1)->IsPair h' s.heap.objs.size x y->h'.objs.size=s.heap.objs.size+1->
  (∀ c o,c≠z->c≠TO->c≠i1->c≠i2->s.heap.get? c=some o->h'.get? c=some o)->Q (.ref s.heap.objs.size) { s with heap:=h' }) :
 wpAny (model prog w) A (Builtin.«zip.__next__» ⟨[.ref z],[]⟩) (fun fin s'=>∃ v,fin=.done (.ret v)/\Q v s') E s:=by
 obtain ⟨⟨f0,b,hz,hf⟩,hTI,⟨a,b',hTO⟩,h1,h2⟩:=S
 show wpAny _ _ (field (.ref z) 2 >>= _) _ _ _
 refine wpAny_bind (wpAny_field hz rfl (x:=.bool false) rfl ?_)
 show wpAny _ _ (field (.ref z) 3 >>= _) _ _ _
 refine wpAny_bind (wpAny_field hz rfl (x:=.ref TI) rfl ?_)
 refine wpAny_bind (wpAny_seqItems hTI rfl ?_)
 show wpAny _ _ (Builtin.SmallTypes.ownedTupleIsFree (.ref z) >>= _) _ _ _
 refine wpAny_bind (qZ hz hf ?_ fun h₀ hz₀ hs₀=>?_)
 ·simp only [if_true]
  refine wpAny_bind (wpAny_rule ?_)
  refine wpAny_bind (wpAny_field hz rfl (x:=.ref TO) rfl ?_)
  refine wpAny_bind (wpAny_setField_rec hz (by simp) fun h₁ hz₁ hs₁=>?_)
  replace hz₁:gA h₁ z TI TO .ellipsis b:=hz₁
  refine wpAny_bind ?_
  simp only [List.zipIdx_cons,List.zipIdx_nil,List.forIn_cons,List.forIn_nil]
  refine wpAny_bind (wpAny_bind (wpAny_onRaise ?_))
  show wpAny _ _ (Builtin.SmallTypes.nextOf (.ref i1) >>= _) _ _ _
  refine wpAny_bind (gZ (c7 h1 hs₁.extBut D.i1z) (d7 t1 hs₁.extBut D.l1z) hx fun h₂ h1₂ hs₂=>wpAny_pure ?_)
  have hTO₂:IsPair h₂ TO a b':=hs₂.extBut _ _ D.TOi1 (hs₁.extBut _ _ D.TOz hTO)
  refine wpAny_bind (wpAny_seqItems hTO₂ rfl ?_)
  refine wpAny_bind (wpAny_updateSeq_pair hTO₂ fun h₃ hTO₃ hs₃=>?_)
  replace hTO₃:IsPair h₃ TO x b':=hTO₃
  refine wpAny_bind (wpAny_letGo (wpAny_pure ?_))
  refine wpAny_bind (wpAny_bind (wpAny_onRaise ?_))
  show wpAny _ _ (Builtin.SmallTypes.nextOf (.ref i2) >>= _) _ _ _
  refine wpAny_bind (gZ (c7 (c7 (c7 h2 hs₁.extBut D.i2z) hs₂.extBut D.i12.symm) hs₃.extBut D.TOi2.symm)
   (d7 (d7 (d7 t2 hs₁.extBut D.l2z) hs₂.extBut D.l2i1) hs₃.extBut D.l2TO) hy fun h₄ h2₄ hs₄=>wpAny_pure ?_)
  have hTO₄:IsPair h₄ TO x b':=hs₄.extBut _ _ D.TOi2 hTO₃
  refine wpAny_bind (wpAny_seqItems hTO₄ rfl ?_)
  refine wpAny_bind (wpAny_updateSeq_pair hTO₄ fun h₅ hTO₅ hs₅=>?_)
  replace hTO₅:IsPair h₅ TO x y:=hTO₅
  refine wpAny_bind (wpAny_letGo (wpAny_pure (wpAny_pure ?_)))
  refine wpAny_bind (wpAny_seqItems hTO₅ rfl ?_)
  refine wpAny_bind (wpAny_newTuple ?_)
  have hsz:h₅.objs.size=s.heap.objs.size:=by rw [hs₅.1,hs₄.1,hs₃.1,hs₂.1,hs₁.1]
  have hz₅:gA h₅ z TI TO .ellipsis b:=hs₅.extBut _ _ D.TOz.symm (hs₄.extBut _ _ D.i2z.symm (hs₃.extBut _ _ D.TOz.symm (hs₂.extBut _ _ D.i1z.symm hz₁)))
  have hk₅:∀ c o,c≠z->c≠TO->c≠i1->c≠i2->s.heap.get? c=some o->h₅.get? c=some o:=fun c o c1 c2 c3 c4 e=>
   hs₅.extBut _ _ c2 (hs₄.extBut _ _ c4 (hs₃.extBut _ _ c2 (hs₂.extBut _ _ c3 (hs₁.extBut _ _ c1 e))))
  have h1₅:h₅.IsTupleIter i1 a1 (k1+1):=c7 (c7 (c7 h1₂ hs₃.extBut D.TOi1.symm) hs₄.extBut D.i12) hs₅.extBut D.TOi1.symm
  have h2₅:h₅.IsTupleIter i2 a2 (k2+1):=c7 h2₄ hs₅.extBut D.TOi2.symm
  have hzlt:z<h₅.objs.size:=Heap.lt_size hz₅
  show wpAny _ _ (Builtin.SmallTypes.ownedTupleHandOut (.ref z) (.ref h₅.objs.size) >>= _) _ _ _
  refine wpAny_bind ?_
  unfold Builtin.SmallTypes.ownedTupleHandOut
  have hz₆:gA (h₅.push { cls:=.type "tuple",data:=.seq #[x,y] }) z TI TO .ellipsis b:=Heap.get?_push_of_some _ hz₅
  refine wpAny_bind (wpAny_setField_rec hz₆ (by simp) fun h₇ hz₇ hs₇=>?_)
  replace hz₇:gA h₇ z TI TO (rawInt h₅.objs.size) b:=hz₇
  refine wpAny_setField_rec hz₇ (by simp) fun h₈ hz₈ hs₈=>?_
  replace hz₈:gA h₈ z TI TO (rawInt h₅.objs.size) false:=hz₈
  have up:∀ c o,c≠z->h₅.get? c=some o->h₈.get? c=some o:=fun c o c1 e=>hs₈.extBut _ _ c1 (hs₇.extBut _ _ c1 (Heap.get?_push_of_some _ e))
  have hT₈:IsPair h₈ h₅.objs.size x y:=hs₈.extBut _ _ (Nat.ne_of_gt hzlt) (hs₇.extBut _ _ (Nat.ne_of_gt hzlt) (Heap.get?_push_size _ rfl))
  have hz8:h₈.objs.size=h₅.objs.size+1:=by rw [hs₈.1,hs₇.1,Heap.size_push]
  rw [hsz] at hT₈ hz8
  refine wpAny_pure ⟨_,rfl,?_⟩
  show Q (.ref h₅.objs.size) _
  rw [hsz]
  exact hQ h₈ ⟨⟨_,_,hz₈,.inr ⟨_,rfl⟩⟩,up _ _ D.TIz (hk₅ _ _ D.TIz D.TITO D.TIi1 D.TIi2 hTI),⟨_,_,up _ _ D.TOz hTO₅⟩,h1₅.at fun o e=>up _ o D.i1z e,h2₅.at fun o e=>up _ o D.i2z e⟩ hT₈ hz8 fun c o c1 c2 c3 c4 e=>up c o c1 (hk₅ c o c1 c2 c3 c4 e)
 ·simp only [Bool.false_eq_true,if_false]
  rw [← Array.forIn_toList]
  simp only [List.forIn_cons,List.forIn_nil]
  refine wpAny_bind (wpAny_bind (wpAny_bind (wpAny_holding ?_)))
  show wpAny _ _ (Builtin.SmallTypes.nextOf (.ref i1) >>= _) _ _ _
  refine wpAny_bind (gZ (c7 h1 hs₀.extBut D.i1z) (d7 t1 hs₀.extBut D.l1z) hx fun h₂ h1₂ hs₂=>wpAny_pure (wpAny_pure ?_))
  dsimp only
  refine wpAny_bind (wpAny_bind (wpAny_holding ?_))
  show wpAny _ _ (Builtin.SmallTypes.nextOf (.ref i2) >>= _) _ _ _
  refine wpAny_bind (gZ (c7 (c7 h2 hs₀.extBut D.i2z) hs₂.extBut D.i12.symm) (d7 (d7 t2 hs₀.extBut D.l2z) hs₂.extBut D.l2i1) hy fun h₄ h2₄ hs₄=>wpAny_pure (wpAny_pure ?_))
  dsimp only
  refine wpAny_pure ?_
  dsimp only
  refine wpAny_bind (wpAny_newTuple ?_ (by ext))
  have hsz:h₄.objs.size=s.heap.objs.size:=by rw [hs₄.1,hs₂.1,hs₀.1]
  have hk₄:∀ c o,c≠z->c≠TO->c≠i1->c≠i2->s.heap.get? c=some o->h₄.get? c=some o:=fun c o c1 c2 c3 c4 e=>hs₄.extBut _ _ c4 (hs₂.extBut _ _ c3 (hs₀.extBut _ _ c1 e))
  have hz₄:gA h₄ z TI TO f0 true:=hs₄.extBut _ _ D.i2z.symm (hs₂.extBut _ _ D.i1z.symm hz₀)
  have up:∀ c o,h₄.get? c=some o->(h₄.push { cls:=.type "tuple",data:=.seq #[x,y] }).get? c=some o:=fun c o e=>Heap.get?_push_of_some _ e
  refine wpAny_pure ⟨_,rfl,?_⟩
  show Q (.ref h₄.objs.size) _
  have hT:IsPair (h₄.push { cls:=.type "tuple",data:=.seq #[x,y] }) h₄.objs.size x y:=Heap.get?_push_size _ rfl
  have hz8:(h₄.push { cls:=.type "tuple",data:=.seq #[x,y] }).objs.size=h₄.objs.size+1:=Heap.size_push ..
  rw [hsz] at hT hz8
  rw [hsz]
  have hTO₄:IsPair h₄ TO a b':=hs₄.extBut _ _ D.TOi2 (hs₂.extBut _ _ D.TOi1 (hs₀.extBut _ _ D.TOz hTO))
  exact hQ _ ⟨⟨_,_,up _ _ hz₄,hf⟩,up _ _ (hk₄ _ _ D.TIz D.TITO D.TIi1 D.TIi2 hTI),⟨_,_,up _ _ hTO₄⟩,(c7 h1₂ hs₄.extBut D.i12).at fun o e=>up _ o e,h2₄.at fun o e=>up _ o e⟩ hT hz8 fun c o c1 c2 c3 c4 e=>up c o (hk₄ c o c1 c2 c3 c4 e)
theorem yG {z TI TO i1 i2 a1 a2:Addr} {k1 k2:Nat} {xs ys:Array Value} {Q:Fin->Shared->Prop} (hh:A.handled=none) (D:ZipApart z TI TO i1 i2 a1 a2) (S:ZS s.heap z TI TO i1 i2 a1 a2 k1 k2)
 (t1:s.heap.IsTuple a1 xs) (t2:s.heap.IsTuple a2 ys) (hend:xs[k1]?=none∨ys[k2]?=none)
 (hE:∀ h' e,(∀ c o,c≠z->c≠TO->c≠i1->c≠i2->s.heap.get? c=some o->h'.get? c=some o)->(∃ o,h'.get? e=some o/\o.cls=.type "StopIteration")->E (.ref e) { s with heap:=h' }) :
 wpAny (model prog w) A (Builtin.«zip.__next__» ⟨[.ref z],[]⟩) Q E s:=by
 obtain ⟨⟨f0,b,hz,hf⟩,hTI,⟨a,b',hTO⟩,h1,h2⟩:=S
 show wpAny _ _ (field (.ref z) 2 >>= _) _ _ _
 refine wpAny_bind (wpAny_field hz rfl (x:=.bool false) rfl ?_)
 show wpAny _ _ (field (.ref z) 3 >>= _) _ _ _
 refine wpAny_bind (wpAny_field hz rfl (x:=.ref TI) rfl ?_)
 refine wpAny_bind (wpAny_seqItems hTI rfl ?_)
 show wpAny _ _ (Builtin.SmallTypes.ownedTupleIsFree (.ref z) >>= _) _ _ _
 refine wpAny_bind (qZ hz hf ?_ fun h₀ hz₀ hs₀=>?_)
 ·simp only [if_true]
  refine wpAny_bind (wpAny_rule ?_)
  refine wpAny_bind (wpAny_field hz rfl (x:=.ref TO) rfl ?_)
  refine wpAny_bind (wpAny_setField_rec hz (by simp) fun h₁ hz₁ hs₁=>?_)
  replace hz₁:gA h₁ z TI TO .ellipsis b:=hz₁
  refine wpAny_bind ?_
  simp only [List.zipIdx_cons,List.zipIdx_nil,List.forIn_cons,List.forIn_nil]
  refine wpAny_bind (wpAny_bind (wpAny_onRaise ?_))
  show wpAny _ _ (Builtin.SmallTypes.nextOf (.ref i1) >>= _) _ _ _
  cases hx:xs[k1]? with
  | none=>
    refine wpAny_bind (gV hh (c7 h1 hs₁.extBut D.i1z) (d7 t1 hs₁.extBut D.l1z) hx fun h₂ e hs₂ he=>?_)
    obtain ⟨oe,hoe,hce⟩:=he
    have hz₂:gA h₂ z TI TO .ellipsis b:=hs₂ _ _ D.i1z.symm hz₁
    have hez:e≠z:=fun x=>by subst x;rw [hz₂] at hoe;cases hoe;simp at hce
    refine wpAny_setField_rec hz₂ (by simp) fun h₃ _ hs₃=>hE h₃ e (fun c o c1 _ c3 _ x=>hs₃.extBut _ _ c1 (hs₂ _ _ c3 (hs₁.extBut _ _ c1 x))) ⟨oe,hs₃.extBut _ _ hez hoe,hce⟩
  | some x=>
    have hy:ys[k2]?=none:=by rcases hend with h|h;rw [hx] at h;cases h;exact h
    refine wpAny_bind (gZ (c7 h1 hs₁.extBut D.i1z) (d7 t1 hs₁.extBut D.l1z) hx fun h₂ h1₂ hs₂=>wpAny_pure ?_)
    have hTO₂:IsPair h₂ TO a b':=hs₂.extBut _ _ D.TOi1 (hs₁.extBut _ _ D.TOz hTO)
    refine wpAny_bind (wpAny_seqItems hTO₂ rfl ?_)
    refine wpAny_bind (wpAny_updateSeq_pair hTO₂ fun h₃ hTO₃ hs₃=>?_)
    refine wpAny_bind (wpAny_letGo (wpAny_pure ?_))
    refine wpAny_bind (wpAny_bind (wpAny_onRaise ?_))
    show wpAny _ _ (Builtin.SmallTypes.nextOf (.ref i2) >>= _) _ _ _
    refine wpAny_bind (gV hh (c7 (c7 (c7 h2 hs₁.extBut D.i2z) hs₂.extBut D.i12.symm) hs₃.extBut D.TOi2.symm)
     (d7 (d7 (d7 t2 hs₁.extBut D.l2z) hs₂.extBut D.l2i1) hs₃.extBut D.l2TO) hy fun h₄ e hs₄ he=>?_)
    obtain ⟨oe,hoe,hce⟩:=he
    have hz₄:gA h₄ z TI TO .ellipsis b:=hs₄ _ _ D.i2z.symm (hs₃.extBut _ _ D.TOz.symm (hs₂.extBut _ _ D.i1z.symm hz₁))
    have hez:e≠z:=fun x=>by subst x;rw [hz₄] at hoe;cases hoe;simp at hce
    refine wpAny_setField_rec hz₄ (by simp) fun h₅ _ hs₅=>hE h₅ e (fun c o c1 c2 c3 c4 x=>hs₅.extBut _ _ c1 (hs₄ _ _ c4 (hs₃.extBut _ _ c2 (hs₂.extBut _ _ c3 (hs₁.extBut _ _ c1 x))))) ⟨oe,hs₅.extBut _ _ hez hoe,hce⟩
 ·simp only [Bool.false_eq_true,if_false]
  rw [← Array.forIn_toList]
  simp only [List.forIn_cons,List.forIn_nil]
  refine wpAny_bind (wpAny_bind (wpAny_bind (wpAny_holding ?_)))
  show wpAny _ _ (Builtin.SmallTypes.nextOf (.ref i1) >>= _) _ _ _
  cases hx:xs[k1]? with
  | none=>
    refine wpAny_bind (gV hh (c7 h1 hs₀.extBut D.i1z) (d7 t1 hs₀.extBut D.l1z) hx fun h₂ e hs₂ he=>?_)
    exact hE h₂ e (fun c o c1 _ c3 _ x=>hs₂ _ _ c3 (hs₀.extBut _ _ c1 x)) he
  | some x=>
    have hy:ys[k2]?=none:=by rcases hend with h|h;rw [hx] at h;cases h;exact h
    refine wpAny_bind (gZ (c7 h1 hs₀.extBut D.i1z) (d7 t1 hs₀.extBut D.l1z) hx fun h₂ h1₂ hs₂=>wpAny_pure (wpAny_pure ?_))
    dsimp only
    refine wpAny_bind (wpAny_bind (wpAny_holding ?_))
    show wpAny _ _ (Builtin.SmallTypes.nextOf (.ref i2) >>= _) _ _ _
    refine wpAny_bind (gV hh (c7 (c7 h2 hs₀.extBut D.i2z) hs₂.extBut D.i12.symm) (d7 (d7 t2 hs₀.extBut D.l2z) hs₂.extBut D.l2i1) hy fun h₄ e hs₄ he=>?_)
    exact hE h₄ e (fun c o c1 c2 c3 c4 x=>hs₄ _ _ c4 (hs₂.extBut _ _ c3 (hs₀.extBut _ _ c1 x))) he
theorem tM {z TI TO i1 i2 a1 a2:Addr} {k1 k2:Nat} {xs ys:Array Value} {x y:Value} {Q:Value->Shared->Prop} (D:ZipApart z TI TO i1 i2 a1 a2) (S:ZS s.heap z TI TO i1 i2 a1 a2 k1 k2)
 (t1:s.heap.IsTuple a1 xs) (t2:s.heap.IsTuple a2 ys) (hx:xs[k1]?=some x) (hy:ys[k2]?=some y)
 (hQ:∀ h',ZS h' z TI TO i1 i2 a1 a2 (k1+1) (k2+1)->IsPair h' s.heap.objs.size x y->h'.objs.size=s.heap.objs.size+1->
  (∀ c o,c≠z->c≠TO->c≠i1->c≠i2->s.heap.get? c=some o->h'.get? c=some o)->Q (.ref s.heap.objs.size) { s with heap:=h' }) :
 wpAny (model prog w) A (Builtin.SmallTypes.nextOf (.ref z)) Q E s:=by
 obtain ⟨f0,b,hz,_⟩:=S.zz
 have hT:s.TypeIs (.ref z) "zip":=⟨_,hz,rfl⟩
 unfold Builtin.SmallTypes.nextOf
 exact wpAny_bind (wpAny_callSpecial?_slot (name:=Str.ofString "__next__") hT F.slot_zip_next (wpAny_call_entry F.slot_zip_next hT F.entry_zip_next
  (wO D S t1 t2 hx hy fun h' a1 a2 a3 a4=>wpAny_pure (hQ h' a1 a2 a3 a4)) (F.args_zip_next_1 _)))
theorem wI {z TI TO i1 i2 a1 a2:Addr} {k1 k2:Nat} {xs ys:Array Value} {Q:Value->Shared->Prop} (hh:A.handled=none) (D:ZipApart z TI TO i1 i2 a1 a2) (S:ZS s.heap z TI TO i1 i2 a1 a2 k1 k2)
 (t1:s.heap.IsTuple a1 xs) (t2:s.heap.IsTuple a2 ys) (hend:xs[k1]?=none∨ys[k2]?=none)
 (hE:∀ h' e,(∀ c o,c≠z->c≠TO->c≠i1->c≠i2->s.heap.get? c=some o->h'.get? c=some o)->(∃ o,h'.get? e=some o/\o.cls=.type "StopIteration")->E (.ref e) { s with heap:=h' }) :
 wpAny (model prog w) A (Builtin.SmallTypes.nextOf (.ref z)) Q E s:=by
 obtain ⟨f0,b,hz,_⟩:=S.zz
 have hT:s.TypeIs (.ref z) "zip":=⟨_,hz,rfl⟩
 unfold Builtin.SmallTypes.nextOf
 exact wpAny_bind (wpAny_callSpecial?_slot (name:=Str.ofString "__next__") hT F.slot_zip_next (wpAny_call_entry F.slot_zip_next hT F.entry_zip_next (yG (A:=A.in1) hh D S t1 t2 hend hE) (F.args_zip_next_1 _)))
theorem wU {e it:Addr} {i:Nat} {old:Value} {Q:Value->Shared->Prop} (he:IsEnum s.heap e it i old)
 (draw:wpAny (model prog w) A (Builtin.SmallTypes.nextOf (.ref it)) (fun x s₁=>∃ h₁ tk,s₁={ s with heap:=h₁,toks:=tk }/\IsEnum h₁ e it i old/\
  ∀ h',IsEnumOut h' e it ((i:Int)+1) x h₁.objs.size->h'.get? h₁.objs.size=some { cls:=.type "tuple",data:=.seq #[.int i tk,x] }->(∀ b o,b≠e->h₁.get? b=some o->h'.get? b=some o)->
    Q (.ref h₁.objs.size) { s with heap:=h',toks:=tk+1 }) E s) :
 wpAny (model prog w) A (Builtin.«enumerate.__next__» ⟨[.ref e],[]⟩) (fun fin s'=>∃ v,fin=.done (.ret v)/\Q v s') E s:=by
 obtain ⟨hp,g,d,tk₀,os⟩:=s
 show wpAny _ _ (field (.ref e) 2 >>= _) _ _ _
 refine wpAny_bind (wpAny_field he rfl (x:=.ref it) rfl ?_)
 refine wpAny_bind (wpAny_mono draw (fun x s₁ hx=>?_) fun _ _ z=>z)
 obtain ⟨h₁,tk,rfl,he₁,hQ⟩:=hx
 show wpAny _ _ (field (.ref e) 3 >>= _) _ _ ⟨h₁,g,d,tk,os⟩
 refine wpAny_bind (wpAny_field he₁ rfl (x:=rawInt i) rfl ?_)
 show wpAny _ _ (field (.ref e) 4 >>= _) _ _ ⟨h₁,g,d,tk,os⟩
 refine wpAny_bind (wpAny_field he₁ rfl (x:=.none) rfl ?_)
 show wpAny _ _ (mkInt i >>= _) _ _ ⟨h₁,g,d,tk,os⟩
 refine wpAny_bind (wpAny_mkInt ?_)
 show wpAny _ _ (setField (.ref e) 3 (rawInt ((i:Int)+1)) >>= _) _ _ ⟨h₁,g,d,tk+1,os⟩
 refine wpAny_bind (wpAny_setField_rec he₁ (by simp) fun h₂ he₂ hs₂=>?_)
 replace hs₂:Heap.SameBut e h₁ h₂:=hs₂
 replace he₂:IsEnum h₂ e it ((i:Int)+1) old:=he₂
 show wpAny _ _ (setField (.ref e) 4 .none >>= _) _ _ ⟨h₂,g,d,tk+1,os⟩
 refine wpAny_bind (wpAny_setField_rec he₂ (by simp) fun h₃ he₃ hs₃=>?_)
 replace hs₃:Heap.SameBut e h₂ h₃:=hs₃
 replace he₃:IsEnum h₃ e it ((i:Int)+1) old:=he₃
 show wpAny _ _ (newTuple [.int i tk,x] >>= _) _ _ ⟨h₃,g,d,tk+1,os⟩
 refine wpAny_bind (wpAny_newTuple ?_)
 have he₄:IsEnum (h₃.push { cls:=.type "tuple",data:=.seq #[.int i tk,x] }) e it ((i:Int)+1) old:=Heap.get?_push_of_some _ he₃
 have hsz:h₃.objs.size=h₁.objs.size:=by rw [hs₃.1,hs₂.1]
 have ht₄:(h₃.push { cls:=.type "tuple",data:=.seq #[.int i tk,x] }).get? h₃.objs.size=some { cls:=.type "tuple",data:=.seq #[.int i tk,x] }:=Heap.get?_push_size _ rfl
 have hk₄:∀ b o,b≠e->h₁.get? b=some o->(h₃.push { cls:=.type "tuple",data:=.seq #[.int i tk,x] }).get? b=some o:=fun b o hbe hb=>Heap.get?_push_of_some _ (hs₃.extBut b o hbe (hs₂.extBut b o hbe hb))
 have hel:e<h₃.objs.size:=Heap.lt_size he₃
 generalize h₃.push { cls:=.type "tuple",data:=.seq #[.int i tk,x] }=h₄ at he₄ ht₄ hk₄
 rw [hsz] at ht₄ hel ⊢
 show wpAny _ _ (Builtin.SmallTypes.ownedTupleIsFree (.ref e) >>= _) _ _ ⟨h₄,g,d,tk+1,os⟩
 refine wpAny_bind ?_
 unfold Builtin.SmallTypes.ownedTupleIsFree
 refine wpAny_bind (wpAny_field he₄ rfl (x:=.none) rfl (wpAny_pure ?_))
 simp only [if_true]
 refine wpAny_bind (wpAny_rule ?_)
 show wpAny _ _ (field (.ref e) 5 >>= _) _ _ _
 refine wpAny_bind (wpAny_field he₄ rfl (x:=old) rfl ?_)
 show wpAny _ _ (setField (.ref e) 5 x >>= _) _ _ ⟨h₄,g,d,tk+1,os⟩
 refine wpAny_bind (wpAny_setField_rec he₄ (by simp) fun h₅ he₅ hs₅=>?_)
 replace he₅:IsEnum h₅ e it ((i:Int)+1) x:=he₅
 replace hs₅:Heap.SameBut e h₄ h₅:=hs₅
 show wpAny _ _ (Builtin.SmallTypes.ownedTupleHandOut (.ref e) (.ref h₁.objs.size) >>= _) _ _ _
 refine wpAny_bind ?_
 unfold Builtin.SmallTypes.ownedTupleHandOut
 refine wpAny_bind (wpAny_setField_rec he₅ (by simp) fun h₆ he₆ hs₆=>?_)
 replace hs₆:Heap.SameBut e h₅ h₆:=hs₆
 replace he₆:IsEnumOut h₆ e it ((i:Int)+1) x h₁.objs.size:=he₆
 refine wpAny_setField_rec he₆ (by simp) fun h₇ he₇ hs₇=>?_
 replace hs₇:Heap.SameBut e h₆ h₇:=hs₇
 replace he₇:IsEnumOut h₇ e it ((i:Int)+1) x h₁.objs.size:=he₇
 refine wpAny_bind (wpAny_letGo (wpAny_pure ⟨_,rfl,?_⟩))
 have up:∀ b o,b≠e->h₄.get? b=some o->h₇.get? b=some o:=fun b o hb z=>hs₇.extBut b o hb (hs₆.extBut b o hb (hs₅.extBut b o hb z))
 exact hQ h₇ he₇ (up _ _ (Nat.ne_of_gt hel) ht₄) fun b o hb z=>up b o hb (hk₄ b o hb z)
end
noncomputable abbrev Mg (h:Heap) (l1:Addr):Heap:=h.push { cls:=.type "tuple_iterator",data:=.fields #[.ref l1,.int 0 0] }
noncomputable abbrev Mr (h:Heap) (l1 l2:Addr):Heap:=(Mg h l1).push { cls:=.type "tuple_iterator",data:=.fields #[.ref l2,.int 0 0] }
noncomputable abbrev Mt (h:Heap) (l1 l2:Addr):Heap:=(Mr h l1 l2).push { cls:=.type "tuple",data:=.seq #[.ref h.objs.size,.ref (Mg h l1).objs.size] }
noncomputable abbrev Mw (h:Heap) (l1 l2:Addr):Heap:=(Mt h l1 l2).push { cls:=.type "tuple",data:=.seq #[.none,.none] }
noncomputable abbrev Gf (h:Heap) (l1 l2:Addr):Heap:=(Mw h l1 l2).push { cls:=.type "zip",data:=.fields #[.none,.bool false,.bool false,.ref (Mr h l1 l2).objs.size,.ref (Mt h l1 l2).objs.size] }
theorem Ac (l1 l2:Addr) (xs ys:Array Value) :
 Meets (Builtin.«zip.__new__» ⟨[.type "zip",.ref l1,.ref l2],[]⟩) (fun _ R s=>s.heap.IsTuple l1 xs/\s.heap.IsTuple l2 ys/\
  R (.ok (.ret (.ref (Mw s.heap l1 l2).objs.size))) { s with heap:=Gf s.heap l1 l2 }):=
 .of_wp fun prog w A R s h=>by
  obtain ⟨hp,g,d,tk,os⟩:=s;obtain ⟨hl1,hl2,h⟩:=h
  have hsub:=sub_zip
  have hL1:Heap.IsTuple (Shared.heap ⟨hp,g,d,tk,os⟩) l1 xs:=hl1
  have hL2:Heap.IsTuple (Shared.heap ⟨hp.push { cls:=.type "tuple_iterator",data:=.fields #[.ref l1,.int 0 0] },g,d,tk,os⟩) l2 ys:=let ⟨o,e,r⟩:=hl2;⟨o,Heap.get?_push_of_some _ e,r⟩
  wp_walk using wpAny_pyIter_tuple hL1,wpAny_pyIter_tuple hL2
  exact ⟨_,rfl,h⟩
theorem wX (hl1:s.heap.IsTuple l1 xs) (hl2:s.heap.IsTuple l2 ys)
 (h:∀ h',gA h' (s.heap.objs.size+4) (s.heap.objs.size+2) (s.heap.objs.size+3) .none false->IsPair h' (s.heap.objs.size+2) (.ref s.heap.objs.size) (.ref (s.heap.objs.size+1))->
  IsPair h' (s.heap.objs.size+3) .none .none->h'.IsTupleIter s.heap.objs.size l1 0->h'.IsTupleIter (s.heap.objs.size+1) l2 0->h'.objs.size=s.heap.objs.size+5->
  (∀ c o,s.heap.get? c=some o->h'.get? c=some o)->Q (.ref (s.heap.objs.size+4)) { s with heap:=h' }) :
 wpAny (model prog w) A (call (.type "zip") [.ref l1,.ref l2]) Q E s:=by
 refine callType_new F.called_zip (by decide) (F.typeCall_zip_2 _ _) (F.newCall_zip_2 _ _) (fun obj=>F.args_object_init_3 obj _ _) F.entry_zip_new
  (Ac l1 l2 xs ys) ⟨hl1,hl2,?_⟩
 have z1:(Mg s.heap l1).objs.size=s.heap.objs.size+1:=Heap.size_push ..
 have z2:(Mr s.heap l1 l2).objs.size=s.heap.objs.size+2:=by rw [Heap.size_push,z1]
 have z3:(Mt s.heap l1 l2).objs.size=s.heap.objs.size+3:=by rw [Heap.size_push,z2]
 have z4:(Mw s.heap l1 l2).objs.size=s.heap.objs.size+4:=by rw [Heap.size_push,z3]
 have z5:(Gf s.heap l1 l2).objs.size=s.heap.objs.size+5:=by rw [Heap.size_push,z4]
 have g5:(Gf s.heap l1 l2).get? (Mw s.heap l1 l2).objs.size=some _:=Heap.get?_push_size _ rfl
 have g4:(Gf s.heap l1 l2).get? (Mt s.heap l1 l2).objs.size=some _:=Heap.get?_push_of_some _ (Heap.get?_push_size _ rfl)
 have g3:(Gf s.heap l1 l2).get? (Mr s.heap l1 l2).objs.size=some _:=Heap.get?_push_of_some _ (Heap.get?_push_of_some _ (Heap.get?_push_size _ rfl))
 have g2:(Gf s.heap l1 l2).get? (Mg s.heap l1).objs.size=some _:=Heap.get?_push_of_some _ (Heap.get?_push_of_some _ (Heap.get?_push_of_some _ (Heap.get?_push_size _ rfl)))
 have g1:(Gf s.heap l1 l2).get? s.heap.objs.size=some _:=Heap.get?_push_of_some _ (Heap.get?_push_of_some _ (Heap.get?_push_of_some _ (Heap.get?_push_of_some _ (Heap.get?_push_size _ rfl))))
 show _/\_
 rw [z2,z3,z4] at g5
 rw [z1,z2] at g3
 rw [z3] at g4
 rw [z1] at g2
 rw [z4]
 exact ⟨⟨_,g5,rfl⟩,h _ g5 g3 g4 ⟨_,g1,rfl,rfl⟩ ⟨_,g2,rfl,rfl⟩ z5 fun c o x=>
  Heap.get?_push_of_some _ (Heap.get?_push_of_some _ (Heap.get?_push_of_some _ (Heap.get?_push_of_some _ (Heap.get?_push_of_some _ x))))⟩
theorem pq {s:Shared} {z TI TO:Addr} {f0:Value} {b:Bool} {Q:Value->Shared->Prop} (hz:gA s.heap z TI TO f0 b) (h:Q (.ref z) s):wpAny (model prog w) A (pyIter (.ref z)) Q E s:=by
 have hT:s.TypeIs (.ref z) "zip":=⟨_,hz,rfl⟩
 refine wpAny_pyIter_slot hT F.slot_zip_iter (wpAny_call_entry F.slot_zip_iter hT F.entry_zip_iter ?_ (F.args_zip_iter_1 _))
 show wpAny _ _ (ret (.ref z)) _ _ s
 exact wpAny_pure ⟨_,rfl,"zip",_,hT,F.slot_zip_next.lookup,h⟩
theorem xP (z TI TO:Addr) :
 Meets (Builtin.«enumerate.__new__» ⟨[.type "enumerate",.ref z],[]⟩) (fun _ R s=>gA s.heap z TI TO .none false/\
  R (.ok (.ret (.ref s.heap.objs.size))) { s with heap:=s.heap.push { cls:=.type "enumerate",data:=.fields #[.none,.bool false,.ref z,rawInt 0,.none,.none] } }):=
 .of_wp fun prog w A R s h=>by
  obtain ⟨hp,g,d,tk,os⟩:=s
  obtain ⟨hl,h⟩:=h
  have hsub:=sub_enumerate
  have hL:gA (Shared.heap ⟨hp,g,d,tk,os⟩) z TI TO .none false:=hl
  wp_walk using AutoSeq1.wpAny_loadPart' hl
  refine wpAny_stack_any fun st=>wpAny_pure ?_
  split
  ·rename_i c _ _ _ _ _
   cases (c == Value.type "enumerate") <;> (wp_walk using AutoSeq1.wpAny_loadPart' hl,pq hL;exact ⟨_,rfl,h⟩)
  ·wp_walk using AutoSeq1.wpAny_loadPart' hl,pq hL
   exact ⟨_,rfl,h⟩
theorem uE {prog:Program} {w:World} {A:Around} {E:Value->Shared->Prop} {s:Shared} {z TI TO:Addr} {Q:Value->Shared->Prop} (hz:gA s.heap z TI TO .none false)
 (h:∀ g,IsEnum g s.heap.objs.size z 0 .none->(∀ b o,s.heap.get? b=some o->g.get? b=some o)->Q (.ref s.heap.objs.size) { s with heap:=g }):wpAny (model prog w) A (call (.type "enumerate") [.ref z]) Q E s:=by
 refine callType_new F.called_enumerate (by decide) (F.typeCall_enumerate_1 _) (F.newCall_enumerate_1 _) (fun obj=>F.args_object_init_2 obj _) F.entry_enumerate_new (xP z TI TO) ⟨hz,?_⟩
 have he:=Heap.get?_push_size s.heap (o:={ cls:=.type "enumerate",data:=.fields #[.none,.bool false,.ref z,rawInt 0,.none,.none] }) rfl
 exact ⟨⟨_,he,rfl⟩,h _ he fun b o x=>Heap.get?_push_of_some _ x⟩
noncomputable def M9 (K:PySem.W.Frag) (a1 a2:Addr):It:=
 ⟨fun i H=>∃ xs ys x y,bD K H a1 xs/\bD K H a2 ys/\xs[i]?=some x/\ys[i]?=some y,
  fun i H v H'=>∃ q p x y,H q=none/\upd H q (.tup [x,y]) p=none/\v=.ref p/\(∀ xs,bD K H a1 xs->xs[i]?=some x)/\(∀ ys,bD K H a2 ys->ys[i]?=some y)/\H'=upd (upd H q (.tup [x,y])) p (.tup [.int i,.ref q]),
  fun i H=>∃ xs ys,bD K H a1 xs/\bD K H a2 ys/\(xs.length≤i∨ys.length≤i)⟩
structure Bg (e z TI TO i1 i2:Addr):Prop where
 ez:e≠z
 eTI:e≠TI
 eTO:e≠TO
 e1:e≠i1
 e2:e≠i2
 TIz:TI≠z
 TOz:TO≠z
 i1z:i1≠z
 i2z:i2≠z
 TITO:TI≠TO
 TIi1:TI≠i1
 TIi2:TI≠i2
 TOi1:TO≠i1
 TOi2:TO≠i2
 i12:i1≠i2
noncomputable abbrev EZ (e z TI TO i1 i2 a1 a2:Addr) (i:Nat) (h:Heap):Prop:=(∃ old,IsEnum h e z i old)/\ZS h z TI TO i1 i2 a1 a2 i i
theorem EZ.obj {e z TI TO i1 i2 a1 a2:Addr} {i:Nat} {h:Heap} (st:EZ e z TI TO i1 i2 a1 a2 i h):∀ b∈[e,z,TI,TO,i1,i2],∃ o,h.get? b=some o/\∀ v,o.data≠.cell v:=by
 obtain ⟨⟨old,he⟩,⟨f0,b0,hz,_⟩,hTI,⟨x,y,hTO⟩,⟨o1,e1,_,d1⟩,⟨o2,e2,_,d2⟩⟩:=st
 intro b hb
 simp only [List.mem_cons,List.not_mem_nil,or_false] at hb
 rcases hb with rfl|rfl|rfl|rfl|rfl|rfl
 ·exact ⟨_,he,fun v z=>by cases z⟩
 ·exact ⟨_,hz,fun v z=>by cases z⟩
 ·exact ⟨_,hTI,fun v z=>by cases z⟩
 ·exact ⟨_,hTO,fun v z=>by cases z⟩
 ·exact ⟨_,e1,fun v z=>by rw [d1] at z;cases z⟩
 ·exact ⟨_,e2,fun v z=>by rw [d2] at z;cases z⟩
theorem ZS.keep {z TI TO i1 i2 a1 a2:Addr} {i:Nat} {h h':Heap} (st:ZS h z TI TO i1 i2 a1 a2 i i) (k:∀ b∈[z,TI,TO,i1,i2],∀ o,h.get? b=some o->h'.get? b=some o):ZS h' z TI TO i1 i2 a1 a2 i i:=by
 obtain ⟨⟨f0,b0,hz,hf⟩,hTI,⟨x,y,hTO⟩,h1,h2⟩:=st
 exact ⟨⟨f0,b0,k _ (by simp) _ hz,hf⟩,k _ (by simp) _ hTI,⟨x,y,k _ (by simp) _ hTO⟩,h1.at fun o e=>k _ (by simp) _ e,h2.at fun o e=>k _ (by simp) _ e⟩
theorem ZS.obj {z TI TO i1 i2 a1 a2:Addr} {i j:Nat} {h:Heap} (st:ZS h z TI TO i1 i2 a1 a2 i j):∀ b∈[z,TO,i1,i2],∃ o,h.get? b=some o:=by
 obtain ⟨⟨f0,b0,hz,_⟩,hTI,⟨x,y,hTO⟩,⟨o1,e1,_,d1⟩,⟨o2,e2,_,d2⟩⟩:=st
 intro b hb
 simp only [List.mem_cons,List.not_mem_nil,or_false] at hb
 rcases hb with rfl|rfl|rfl|rfl
 ·exact ⟨_,hz⟩
 ·exact ⟨_,hTO⟩
 ·exact ⟨_,e1⟩
 ·exact ⟨_,e2⟩
theorem zK (I:Inv X aq σ H s) (hq:bD X.K H a zs) (hb:kE X aq H b):a≠b:=by
 rintro rfl
 rcases hq with h|⟨o,its,n,hk,_⟩
 ·rcases h with h|⟨u,h⟩
  ·rw [hb.1] at h;cases h
  ·rw [hb.1] at h;cases h
 ·have e:=I.ok.mod.kin _ _ hk
  rcases hb.2.2.2.1 with z|z
  ·exact I.ok.noex _ _ e z
  ·exact absurd (Heap.lt_size (I.ok.bs _ _ e).1) (Nat.not_lt.mpr z)
theorem Inv.turnedN {X:Cx} {aq:List (Addr×Obj)} {σ:St} {H:Hp} {s:Shared} {h':Heap} {t':Nat} {fp:List Addr} (I:Inv X aq σ H s) (k:∀ b u,b∉fp->s.heap.get? b=some u->h'.get? b=some u) (hf:∀ b∈fp,kE X aq H b):Inv X aq σ H { s with heap:=h',toks:=t' }:=by
 have off:∀ b u,H b=some u->b∉fp:=fun b u e z=>by rw [(hf b z).1] at e;cases e
 refine I.step (g':=s.gens) (d':=s.drawn) (ch:=fp) (fun b hb=>?_) (fun b u _ _ hc e _=>k b u hc e) (fun b u _ _ hc e _=>⟨u.slots,k b u hc e⟩) (fun _ _ _ _ n=>n) (fun b u hc e=>⟨u,k b u hc e⟩) (fun _ _ e=>e) (fun _ _ _ e=>e) (fun b ps e=>⟨#[],by rw [e];simp⟩) (fun m hm=>?_) (fun b u e=>?_) I.bare
 ·obtain ⟨_,f1,_,f3,f4,f5⟩:=hf b hb
  exact ⟨f3,f1,f4,f5⟩
 ·obtain ⟨u,es,ep,ho,r⟩:=hm
  exact ⟨u,es,ep,k _ u (fun z=>(hf _ z).2.1 rfl) ho,r⟩
 ·refine (I.hok b u e).stay (fun c v hc q=>k c v ?_ q) (fun c q=>q) fun c xs q=>q
  rcases hc with rfl|z
  ·exact off _ u e
  ·exact off c _ z
theorem kE.upd (h:kE X aq H b) (ne:b≠a):kE X aq (upd H a o) b:=⟨by rw [aX ne];exact h.1,h.2⟩
theorem tD {P:Program} {w:World} {K:PySem.W.Frag} {elts:List Expr} {k1} {pos:Pos} (a1 a2 e z TI TO i1 i2:Addr) (D:Bg e z TI TO i1 i2) :
 Turn P w K (.Tuple elts k1 pos) (M9 K a1 a2) [e,z,TI,TO,i1,i2] e (EZ e z TI TO i1 i2 a1 a2) where
 mem:=by simp
 obj:=fun i h st b hb=>st.obj b hb
 keep:=fun i h h' st k=>⟨let ⟨old,h1⟩:=st.1;⟨old,k e (by simp) _ h1⟩,st.2.keep fun b hb o z=>k b (List.mem_cons_of_mem _ hb) o z⟩
 item:=by
  intro X hP hw hK hc i aq s σ H E I hf st hg
  subst hP hw hK
  obtain ⟨xs,ys,x,y,hq1,hq2,hx,hy⟩:=hg
  obtain ⟨its1,rv1,p1,_⟩:=I.tuple hq1
  obtain ⟨its2,rv2,p2,_⟩:=I.tuple hq2
  obtain ⟨u1,hu1,ru1⟩:=rv1.get hx
  obtain ⟨u2,hu2,ru2⟩:=rv2.get hy
  have t1:s.heap.IsTuple a1 its1.toArray:=p1
  have t2:s.heap.IsTuple a2 its2.toArray:=p2
  obtain ⟨⟨old,he⟩,S⟩:=st
  have free:∀ b∈[e,z,TI,TO,i1,i2],H b=none:=fun b hb=>(hf b hb).1
  have apart:∀ {a:Addr} {zs:List V},bD X.K H a zs->∀ b∈[e,z,TI,TO,i1,i2],a≠b:=fun hq b hb=>zK I hq (hf b hb)
  have ZA:ZipApart z TI TO i1 i2 a1 a2:=⟨D.TIz,D.TOz,D.i1z,D.i2z,D.TITO,D.TIi1,D.TIi2,D.TOi1,D.TOi2,D.i12,apart hq1 _ (by simp),apart hq1 _ (by simp),apart hq1 _ (by simp),apart hq1 _ (by simp),apart hq2 _ (by simp),apart hq2 _ (by simp),apart hq2 _ (by simp),apart hq2 _ (by simp)⟩
  have hT:s.TypeIs (.ref e) "enumerate":=⟨_,he,rfl⟩
  unfold pyNext
  refine wpAny_bind (wpAny_attempt (wpAny_callSpecial?_slot (name:=Str.ofString "__next__") hT F.slot_enumerate_next (wpAny_call_entry F.slot_enumerate_next hT F.entry_enumerate_next (wU he ?_) (F.args_enumerate_next_1 _))))
  refine tM ZA S t1 t2 (by simpa using hu1) (by simpa using hu2) fun h₁ S₁ hp₁ hz₁ hk₁=>?_
  have he₁:IsEnum h₁ e z i old:=hk₁ _ _ D.ez D.eTO D.e1 D.e2 he
  refine ⟨h₁,s.toks,rfl,he₁,fun h' ho ht hk'=>wpAny_pure ⟨_,rfl,?_⟩⟩
  have lt:∀ b∈[e,z,TI,TO,i1,i2],b<s.heap.objs.size:=fun b hb=>by
   obtain ⟨o,z',_⟩:=EZ.obj (⟨⟨old,he⟩,S⟩:EZ e z TI TO i1 i2 a1 a2 i s.heap) b hb
   exact Heap.lt_size z'
  have I1:Inv X aq σ (upd H s.heap.objs.size (.tup [x,y])) { s with heap:=h₁,toks:=s.toks }:=by
   refine I.turnLaid (fp:=[z,TO,i1,i2]) (fun b o hb q=>hk₁ b o (fun r=>hb (by simp [r])) (fun r=>hb (by simp [r])) (fun r=>hb (by simp [r])) (fun r=>hb (by simp [r])) q) (fun b hb=>?_) (fun b hb=>hf b ?_) (Nat.le_refl _) ?_
   ·exact S₁.obj b hb
   ·simp at hb ⊢
    rcases hb with h|h|h|h <;> simp [h]
   ·exact ⟨by show 2≤sizeLine;decide,[u1,u2],.cons ru1 (.cons ru2 .nil),⟨_,hp₁,rfl,_,rfl⟩⟩
  have hno1:∀ b∈[e,z,TI,TO,i1,i2],(upd H s.heap.objs.size (.tup [x,y])) b=none:=fun b hb=>by rw [aX (Nat.ne_of_lt (lt b hb))];exact free b hb
  have hpn:(upd H s.heap.objs.size (.tup [x,y])) h₁.objs.size=none:=I1.hok.fresh (Nat.le_refl _)
  have I2:Inv X aq σ (upd (upd H s.heap.objs.size (.tup [x,y])) h₁.objs.size (.tup [.int i,.ref s.heap.objs.size])) { s with heap:=h',toks:=s.toks+1 }:=by
   refine Inv.turnLaid (s:={ s with heap:=h₁,toks:=s.toks }) (fp:=[e]) I1 (fun b o hb q=>hk' b o (fun r=>hb (by simp [r])) q) (fun b hb=>?_) (fun b hb=>?_) (Nat.le_refl _) ?_
   ·cases List.mem_singleton.mp hb
    exact ⟨_,ho⟩
   ·cases List.mem_singleton.mp hb
    exact (hf e (by simp)).upd (Nat.ne_of_lt (lt e (by simp)))
   ·exact ⟨by show 2≤sizeLine;decide,[.int i s.toks,.ref s.heap.objs.size],.cons ⟨_,rfl⟩ (.cons rfl .nil),⟨_,ht,rfl,_,rfl⟩⟩
  have hno2:∀ b∈[e,z,TI,TO,i1,i2],(upd (upd H s.heap.objs.size (.tup [x,y])) h₁.objs.size (.tup [.int i,.ref s.heap.objs.size])) b=none:=fun b hb=>by
   rw [aX (Nat.ne_of_lt (Nat.lt_of_lt_of_le (lt b hb) (by rw [hz₁];exact Nat.le_succ _)))]
   exact hno1 b hb
  refine wpAny_letOwnedTupleGo_enum ho fun g2 he2 hs2=>?_
  obtain ⟨f0,f1,f2,f3,f4,f5⟩:=hf e (by simp)
  refine ⟨.ref h₁.objs.size,_,I2.turned (t':=s.toks+1) (fun b o hb q=>(hs2.2 b hb).trans q) (hno2 e (by simp)) f1 f3 f4 f5,rfl,⟨s.heap.objs.size,h₁.objs.size,x,y,I.hok.fresh (Nat.le_refl _),hpn,rfl,fun zs hz=>by rw [I.tuple_inj hz hq1];exact hx,fun zs hz=>by rw [I.tuple_inj hz hq2];exact hy,rfl⟩,⟨⟨_,by simpa using he2⟩,?_⟩,hno2⟩
  refine S₁.keep fun b hb o q=>?_
  have be:b≠e:=by
   simp only [List.mem_cons,List.not_mem_nil,or_false] at hb
   rcases hb with rfl|rfl|rfl|rfl|rfl
   ·exact D.ez.symm
   ·exact D.eTI.symm
   ·exact D.eTO.symm
   ·exact D.e1.symm
   ·exact D.e2.symm
  exact (hs2.2 b be).trans (hk' b o be q)
 done:=by
  intro X hP hw hK hc i aq s σ H E I hf st hg
  subst hP hw hK
  obtain ⟨xs,ys,hq1,hq2,hend⟩:=hg
  obtain ⟨its1,rv1,p1,_⟩:=I.tuple hq1
  obtain ⟨its2,rv2,p2,_⟩:=I.tuple hq2
  have t1:s.heap.IsTuple a1 its1.toArray:=p1
  have t2:s.heap.IsTuple a2 its2.toArray:=p2
  obtain ⟨⟨old,he⟩,S⟩:=st
  have l1:=rv1.length
  have l2:=rv2.length
  have apart:∀ {a:Addr} {zs:List V},bD X.K H a zs->∀ b∈[e,z,TI,TO,i1,i2],a≠b:=fun hq b hb=>zK I hq (hf b hb)
  have ZA:ZipApart z TI TO i1 i2 a1 a2:=⟨D.TIz,D.TOz,D.i1z,D.i2z,D.TITO,D.TIi1,D.TIi2,D.TOi1,D.TOi2,D.i12,apart hq1 _ (by simp),apart hq1 _ (by simp),apart hq1 _ (by simp),apart hq1 _ (by simp),apart hq2 _ (by simp),apart hq2 _ (by simp),apart hq2 _ (by simp),apart hq2 _ (by simp)⟩
  have hT:s.TypeIs (.ref e) "enumerate":=⟨_,he,rfl⟩
  unfold pyNext
  refine wpAny_bind (wpAny_attempt (wpAny_callSpecial?_slot (name:=Str.ofString "__next__") hT F.slot_enumerate_next (wpAny_call_entry F.slot_enumerate_next hT F.entry_enumerate_next ?_ (F.args_enumerate_next_1 _))))
  show wpAny _ _ (field (.ref e) 2 >>= _) _ _ _
  refine wpAny_bind (wpAny_field he rfl (x:=.ref z) rfl (wpAny_bind (wI (A:=X.A.in1) (I.ok.hd hc) ZA S t1 t2 (by simp;lia) fun g x' hk hx'=>?_)))
  obtain ⟨o,ho,hcl⟩:=hx'
  refine wpAny_bind (wpAny_isInstance (T:="StopIteration") (b:=true) ⟨o,ho,hcl⟩ isSubtype_stop (wpAny_pure ⟨rfl,?_⟩))
  exact I.turnedN (fp:=[z,TO,i1,i2]) (fun b o hb q=>hk b o (fun r=>hb (by simp [r])) (fun r=>hb (by simp [r])) (fun r=>hb (by simp [r])) (fun r=>hb (by simp [r])) q) (fun b hb=>hf b (by simp at hb ⊢;rcases hb with h|h|h|h <;> simp [h]))
 self:=fun _ _ _ _ _ st h=>let ⟨_,he⟩:=st.1;wpAny_pyIter_enum he h
noncomputable def Hq (K:PySem.W.Frag) (ta:TA):TI:=fun σ H R=>ta σ H fun vs H1=>∃ a1 a2,vs=[.ref a1,.ref a2]/\(∃ xs,bD K H1 a1 xs)/\(∃ ys,bD K H1 a2 ys)/\R (M9 K a1 a2) H1
theorem Es:bootBuiltins "zip" = some (.type "zip"):=by ext
theorem zp {k1} (hg:Gl X "enumerate") (hm:X.mg "enumerate" = none) (hg2:Gl X "zip") (hm2:X.mg "zip" = none) (ha:PA X [a,b] ta)
 (hs:starEach [a,b] X.env=(false,eval a X.env)::starEach [b] X.env:=by rfl) (hs1:(backTo pos2 (starEach [b] X.env)).any (·.1)=false:=by rfl)
 (hs2:starEach [.Call (.Name "zip" p2) [a,b] [] pos2] X.env=(false,eval (.Call (.Name "zip" p2) [a,b] [] pos2) X.env)::starEach [] X.env:=by rfl) (hs3:(backTo pos (starEach [] X.env)).any (·.1)=false:=by rfl) :
 PI X (.Tuple elts k1 pt) (.Call (.Name "enumerate" p) [.Call (.Name "zip" p2) [a,b] [] pos2] [] pos) (Hq X.K ta):=by
 intro aq s σ H R I h
 refine Call_ (gG I hg hm gP (PyProof.Rows.callWith_type1 ?_ hs2 hs3))
 rw [hs2]
 show wpAny _ _ (spliced ((false,eval (.Call (.Name "zip" p2) [a,b] [] pos2) X.env)::backTo pos (starEach [] X.env))) _ _ s
 refine Calls.spliced_cons ?_
 refine wpAny_Call_Name_kw (gG I hg2 hm2 Es (PyProof.Rows.callWith_type1 (cI (ha pos2 aq s σ H _ I h) fun us s1 ⟨vs,H1,I1,r1,q1⟩=>?_) hs hs1) (by decide) (by decide))
 obtain ⟨a1,a2,rfl,⟨xs,hq1⟩,⟨ys,hq2⟩,q⟩:=q1
 obtain ⟨u1,u2,rfl,e1,e2⟩:=vals2 r1
 cases (show u1=Value.ref a1 from e1)
 cases (show u2=Value.ref a2 from e2)
 obtain ⟨its1,rv1,p1,_⟩:=I1.tuple hq1
 obtain ⟨its2,rv2,p2',_⟩:=I1.tuple hq2
 refine wX (show s1.heap.IsTuple a1 its1.toArray from p1) (show s1.heap.IsTuple a2 its2.toArray from p2') fun h₁ hz hTI hTO h1 h2 hsz hk=>?_
 refine Calls.spliced_nil ?_
 refine uE (s:={ s1 with heap:=h₁ }) hz fun g he hk2=>wpAny_pyIter_enum he ?_
 have hk3:∀ b o,s1.heap.get? b=some o->g.get? b=some o:=fun b o e=>hk2 _ _ (hk _ _ e)
 have eh:({ s1 with heap:=h₁ }:Shared).heap.objs.size=s1.heap.objs.size+5:=hsz
 refine ⟨s1.heap.objs.size+5,[s1.heap.objs.size+5,s1.heap.objs.size+4,s1.heap.objs.size+2,s1.heap.objs.size+3,s1.heap.objs.size,s1.heap.objs.size+1],_,_,H1,?_,I1.kept (t':=s1.toks) hk3,tD a1 a2 _ _ _ _ _ _ ?_,⟨⟨.none,?_⟩,⟨⟨_,_,hk2 _ _ hz,.inl rfl⟩,hk2 _ _ hTI,⟨_,_,hk2 _ _ hTO⟩,h1.at fun o e=>hk2 _ _ e,h2.at fun o e=>hk2 _ _ e⟩⟩,fun b hb=>?_,q⟩
 ·rw [hsz]
 ·constructor <;> (intro z;have z':(_:Nat)=_:=z;lia)
 ·rw [← hsz];exact he
 ·have hb':s1.heap.objs.size≤b:=by
   simp only [List.mem_cons,List.not_mem_nil,or_false] at hb
   rcases hb with rfl|rfl|rfl|rfl|rfl|rfl
   ·exact Nat.le_add_right _ 5
   ·exact Nat.le_add_right _ 4
   ·exact Nat.le_add_right _ 2
   ·exact Nat.le_add_right _ 3
   ·exact Nat.le_refl _
   ·exact Nat.le_add_right _ 1
  exact I1.fpOk hb' (I1.hok.fresh hb')
theorem xf {K:PySem.W.Frag} {a1 a2:Addr} {xs ys:List V} {g:TG} {tb:TS} {D:Ends} {σ:St} {H:Hp} (Pv:Nat->St->Hp->Prop) (h0:Pv 0 σ H) (hl:∀ i σ H,i≤min xs.length ys.length->Pv i σ H->bD K H a1 xs/\bD K H a2 ys)
 (hs:∀ i x y σ H q p,xs[i]?=some x->ys[i]?=some y->Pv i σ H->H q=none->upd H q (.tup [x,y]) p=none->g (.ref p) σ (upd (upd H q (.tup [x,y])) p (.tup [.int i,.ref q])) fun σ2 H2=>tb { D with nx:=Pv (i+1),ct:=Pv (i+1),bk:=D.nx } σ2 H2)
 (hd:∀ σ H,Pv (min xs.length ys.length) σ H->D.nx σ H) :
 ∃ W:Nat->Nat->St->Hp->Prop,(∃ m,W 0 m σ H)/\∀ i m σ H,W i m σ H->((M9 K a1 a2).stop i H/\D.nx σ H)∨((M9 K a1 a2).go i H/\∃ N:St->Hp->Prop,(∀ σ' H',N σ' H'->∃ m',m'<m/\W (i+1) m' σ' H')/\∀ x H',(M9 K a1 a2).yld i H x H'->g x σ H' fun σ2 H2=>tb { D with nx:=N,ct:=N,bk:=D.nx } σ2 H2):=by
 refine ⟨fun i m σ H=>m=min xs.length ys.length-i/\i≤min xs.length ys.length/\Pv i σ H,⟨min xs.length ys.length,by simp,Nat.zero_le _,h0⟩,?_⟩
 rintro i m σ H ⟨rfl,hi,p⟩
 obtain ⟨q1,q2⟩:=hl i σ H hi p
 by_cases hlt:i<min xs.length ys.length
 ·have l1:i<xs.length:=by lia
  have l2:i<ys.length:=by lia
  refine .inr ⟨⟨xs,ys,xs[i],ys[i],q1,q2,by simp [l1],by simp [l2]⟩,Pv (i+1),fun σ' H' z=>⟨min xs.length ys.length-(i+1),by lia,rfl,hlt,z⟩,?_⟩
  rintro x H' ⟨q,p',y1,y2,hn,hn2,rfl,hy1,hy2,rfl⟩
  exact hs i y1 y2 σ H q p' (hy1 xs q1) (hy2 ys q2) p hn hn2
 ·have e:i=min xs.length ys.length:=by lia
  subst e
  exact .inl ⟨⟨xs,ys,q1,q2,by lia⟩,hd σ H p⟩
end L2
namespace L2
open PySem PySem.Spec PyProof.Rows PySem.W PyProof.V
noncomputable def vP (K:Frag) (a:Addr) (D:List (Str×PyData)):Prop:=KTD.tabLook KTD.flatLooks (fun b=>K.lookup b) a D=true
noncomputable def Mp:PyData->V
 |.int i=>.int i
 |.str x=>.str x
 |.bool b=>.bl b
 |_=>.non
noncomputable def l_ (D:List (Str×PyData)) (k:Str):Option V:=(KTD.datumAt k D).map Mp
theorem Bo {h:Heap}:∀ {d:PyData} {v:Value},Flat v d->RelV (Mp d) v:=by
 intro d v x
 cases x ⟨#[],h.life⟩
 all_goals first|exact ⟨_,rfl⟩|rfl|exact absurd (Heap.lt_size (by assumption)) (Nat.not_lt_zero _)
noncomputable def Kg (D:List (Str×PyData)):List (Str×KTD.Dat):=D.map fun p=>(p.1,KTD.Dat.flat p.2)
theorem jx:∀ {D:List (Str×PyData)},KTD.datumAt k (Kg D)=(KTD.datumAt k D).map KTD.Dat.flat
 |[]=>rfl
 | (x,d)::D=>by
   show (if _ then _ else KTD.datumAt k (Kg D))=_
   rw [jx (D:=D)]
   show _=(if _ then _ else KTD.datumAt k D).map _
   split <;> rfl
theorem tU:KTD.inKeys k (Kg D)=(l_ D k).isSome:=by
 rw [← KTD.isSome_datumAt,jx]
 unfold l_
 cases KTD.datumAt k D <;> rfl
theorem vP.here (T:vP X.K a D) (I:Inv X aq σ H s):KTD.Here s.heap s.heap a (Kg D):=⟨KTD.TabOf.text (KTD.tab_of_look (fun _ _ h=>KTD.flat_of_looks h) (fun b o e=>I.kIn b o e) T),fun _ _ h=>h⟩
noncomputable def Ew (K:Frag) (neg:Bool):R2:=fun x y H Q=>∃ k a D,x=.str k/\y=.ref a/\vP K a D/\Q (.bl (if neg then !(l_ D k).isSome else (l_ D k).isSome)) H
theorem yg:iI X (compareOp .In) (Ew X.K false):=by
 intro aq s σ H x y v u Q I rx ry h
 obtain ⟨k,a,D,rfl,rfl,T,q⟩:=h
 obtain ⟨t,rfl⟩:=rx
 cases (show u=Value.ref a from ry)
 refine KTD.in_text (T.here I) ⟨.bl _,H,I.tok _,rfl,?_⟩
 rw [tU]
 exact q
noncomputable def Bd (K:Frag) (td ty:TE):TE:=fun σ H Q=>td σ H fun x H1=>∃ a D,x=.ref a/\vP K a D/\ty σ H1 fun y H2=>∃ k,y=.str k/\Q ((l_ D k).getD .non) H2
theorem v_ (ho:PE X o td) (he:PE X e ty) (m:M1 X o "get" apos e cpos):PE X (.Call (.Attribute o "get" apos) [e] [] cpos) (Bd X.K td ty):=by
 intro aq s σ H Q I h
 refine wpAny_Call_method m.base m.few m.line PySem.F.plainAttrs_dict PySem.F.slot_dict_get PySem.F.type_dict_get (cI (ho aq s σ H _ I h) fun u s1 ⟨x,H1,I1,rx,a,D,ex,T,q1⟩=>?_)
 subst ex
 obtain rfl:u=Value.ref a:=rx
 refine ⟨(T.here I1).typeIs,(T.here I1).noDict,?_⟩
 rw [m.trees]
 refine Calls.callWith_builtin rfl (Calls.evalArgs_plain (Calls.spliced_cons (cI (he aq s1 σ H1 _ I1 q1) fun iv s2 ⟨y,H2,I2,ry,k,ey,q2⟩=>Calls.spliced_nil ?_)))
 subst ey
 obtain ⟨t,rfl⟩:=ry
 refine call_meetsIn PySem.F.slot_dict_get (T.here I2).typeIs PySem.F.entry_dict_get (PySem.F.args_dict_get_2 _ _) (KTD.meets_get1 (h₀:=s2.heap) (D:=Kg D)) ⟨T.here I2,fun d v ha hv=>?_,fun hn=>?_⟩
 ·rw [jx] at ha
  unfold l_ at q2
  cases hd:KTD.datumAt k D with
  |none=>rw [hd] at ha;cases ha
  | some d'=>
    rw [hd] at ha q2
    cases ha
    exact ⟨_,H2,I2.tok _,Bo (h:=s.heap) hv,q2⟩
 ·rw [jx] at hn
  unfold l_ at q2
  cases hd:KTD.datumAt k D with
  |some d'=>rw [hd] at hn;cases hn
  | none=>
    rw [hd] at q2
    exact ⟨.non,H2,I2.tok _,rfl,q2⟩
end L2
namespace L2
open PySem PySem.Spec PyProof.Rows PySem.SeqAt PySem.Builtin PySem.Builtin.Str
end L2
namespace L2
open PySem PySem.Spec PyProof.Rows PySem.SeqAt
open PySem.NumText in
theorem o9 (m:Nat):AllDigits ((Nat.toDigits 10 m).map Char.toNat)/\(Nat.toDigits 10 m).map Char.toNat≠[]:=by
 refine ⟨fun c hc=>?_,fun e=>?_⟩
 ·obtain ⟨ch,hch,e⟩:=List.mem_map.mp hc
  have r:=digit_range (Nat.isDigit_of_mem_toDigits (by decide) (by decide) hch)
  rw [← e]
  exact r
 ·have h:=toDigits_len_ge 10 m
  rw [List.map_eq_nil_iff.mp e] at h
  exact absurd h (by decide)
open PySem.NumText in
theorem ww (m:Nat):(PySem.Str.ofString (toString (Int.negSucc m))).cps.toList=45::(Nat.toDigits 10 (m+1)).map Char.toNat:=by
 rw [signs_ofString]
 show (("-"++Nat.repr (m+1):String)).toList.map Char.toNat=_
 rw [String.toList_append,Nat.toList_repr]
 rfl
theorem lV (i:Int):∃ ds:List Nat,(∀ c∈ds,48≤c/\c≤57)/\ds≠[]/\ds=(PySem.Str.ofString (toString ((i.natAbs:Nat):Int))).cps.toList/\((PySem.Str.ofString (toString i)).cps.toList=ds∨(PySem.Str.ofString (toString i)).cps.toList=45::ds)/\((PySem.Str.ofString (toString i)).length≤4300->PySem.intText? (PySem.Str.ofString (toString i))=some i):=by
 cases i with
 | ofNat m=>
   obtain ⟨h1,h2⟩:=o9 m
   have e:=PySem.W.KIN.signs_num m
   refine ⟨_,h1,h2,e.symm,.inl e,fun hl=>?_⟩
   have:=PySem.intText_digits (x:=PySem.Str.ofString (toString (Int.ofNat m))) (by rw [show (Int.ofNat m)=((m:Nat):Int) from rfl,e];exact h1) (by rw [show (Int.ofNat m)=((m:Nat):Int) from rfl,e];exact h2) hl
   rw [this,show (Int.ofNat m)=((m:Nat):Int) from rfl,e,PySem.W.KIN.val_back]
 | negSucc m=>
   obtain ⟨h1,h2⟩:=o9 (m+1)
   have e:=ww m
   refine ⟨_,h1,h2,(PySem.W.KIN.signs_num (m+1)).symm,.inr e,fun hl=>?_⟩
   have:=PySem.intText_neg e h1 h2 hl
   rw [this,PySem.W.KIN.val_back]
   rfl
end L2
namespace L2
open PySem PySem.Spec PyProof.Rows PySem.SeqAt PySem.Builtin PySem.Builtin.Str
theorem o7 {a b:Str} (h:a.cps.toList=b.cps.toList):a=b:=by
 obtain ⟨⟨x⟩⟩:=a
 obtain ⟨⟨y⟩⟩:=b
 cases h
 rfl
theorem rB {lo:Int} {n:Nat} {g:TG} {tt:TT} {te:TE} {F:List V->Hp->Prop} {σ0:St} {H0:Hp} (Pv:Nat->List V->St->Hp->Prop) (hn:n≤sizeLine) (h0:Pv 0 [] σ0 H0)
 (hs:∀ i ys σ H,i<n->Pv i ys σ H->∀ N:List V->St->Hp->Prop,(∀ ys' σ' H',Pv (i+1) ys' σ' H'->ys'.length≤ys.length+1->N ys' σ' H')->g (.int (lo+i)) σ H fun σ2 H2=>tt σ2 H2 fun b H3=>if b=true then te σ2 H3 fun y H4=>N (ys++[y]) σ2 H4 else N ys σ2 H3)
 (hd:∀ ys σ H,ys.length≤n->Pv n ys σ H->F ys H) :
 ∃ W:Nat->Nat->List V->St->Hp->Prop,(∃ m,W 0 m [] σ0 H0)/\ji (De lo n) g tt te F W:=by
 refine ⟨fun i m ys σ H=>m=n-i/\i≤n/\ys.length≤i/\Pv i ys σ H,⟨n,by simp,Nat.zero_le _,Nat.zero_le _,h0⟩,?_⟩
 rintro i m ys σ H ⟨rfl,hi,hl,p⟩
 by_cases hlt:i<n
 ·refine .inr ⟨hlt,by lia,fun x H' y=>?_⟩
  obtain ⟨e,y⟩:=y
  subst e y
  exact hs i ys σ _ hlt p (fun ys' σ' H'=>∃ m',m'<n-i/\m'=n-(i+1)/\i+1≤n/\ys'.length≤i+1/\Pv (i+1) ys' σ' H') fun ys' σ' H' q hl'=>⟨n-(i+1),by lia,rfl,hlt,by lia,q⟩
 ·have e:i=n:=by lia
  subst e
  exact .inl ⟨Nat.le_refl _,hd ys σ H hl p⟩
end L2
namespace L2
open PySem PySem.Spec PyProof.Rows PySem.SeqAt
theorem rQ {K:PySem.W.Frag} {H:Hp} {w:Value}:∀ {xs:List V} {ds:List PyData} {its:List Value},bj K H xs ds->Vals xs its->w∈its->∃ x d,d∈ds/\Rep K H x d/\RelV x w
 | _,_,_,.cons h t,.cons r rs,m=>by
   rcases List.mem_cons.mp m with rfl|m
   ·exact ⟨_,_,List.mem_cons_self,h,r⟩
   ·obtain ⟨x,e,h1,h2,h3⟩:=rQ t rs m
    exact ⟨x,e,List.mem_cons_of_mem _ h1,h2,h3⟩
 |_,_,_,.nil,.nil,m=>by simp at m
theorem Hk (hh:A.handled=none) (it l:Addr) (hne:l≠it) (items:Array Value) (i0:Nat) (h0:items.size≤i0):Draws prog w A it [it,l] 0 (fun i v=>False) (fun i h=>h.IsListIter it l i0/\h.IsList l items) where
 live:=fun _ _ st=>let ⟨o,ho,_⟩:=st.1;⟨o,ho⟩
 frame:=fun _ _ _ st hk=>⟨st.1.at fun o e=>hk it (by simp) o e,st.2.at fun o e=>hk l (by simp) o e⟩
 item:=fun i s Q E hi=>absurd hi (Nat.not_lt_zero _)
 done:=fun s Q E st hE=>wpAny_nextOf_list_end hh st.1 st.2 (by simp [h0]) hE
noncomputable def wG (K:PySem.W.Frag) (a:Addr):It:=
 ⟨fun i H=>∃ xs x,bF K H a xs/\xs[i]?=some x,fun i H v H'=>∃ p x,H p=none/\v=.ref p/\(∀ xs,bF K H a xs->xs[i]?=some x)/\H'=upd H p (.tup [.int i,x]),fun i H=>∃ xs,bF K H a xs/\xs.length≤i⟩
theorem uF {P:Program} {w:World} {K:PySem.W.Frag} {elts:List Expr} {k1} {pos:Pos} (a e it:Addr) (hei:e≠it):Turn P w K (.Tuple elts k1 pos) (wG K a) [e,it] e (fun i h=>(∃ old,IsEnum h e it i old)/\h.IsListIter it a i) where
 mem:=by simp
 obj:=fun i h st b hb=>by
  obtain ⟨⟨old,h1⟩,o,h2,_,h3⟩:=st
  rcases List.mem_cons.mp hb with rfl|hb
  ·exact ⟨_,h1,fun v z=>by cases (show Data.fields _=Data.cell v from z)⟩
  ·cases List.mem_singleton.mp hb
   exact ⟨o,h2,fun v z=>by rw [h3] at z;cases z⟩
 keep:=fun i h h' st k=>⟨let ⟨old,h1⟩:=st.1;⟨old,k e (by simp) _ h1⟩,st.2.at fun o z=>k it (by simp) o z⟩
 item:=by
  intro X hP hw hK hc i aq s σ H E I hf st hg
  subst hP hw hK
  obtain ⟨xs,x,hq,hx⟩:=hg
  obtain ⟨its,rv,p,hz⟩:=I.list hq
  obtain ⟨u,hu,ru⟩:=rv.get hx
  obtain ⟨⟨old,he⟩,ht⟩:=st
  have hit:s.heap.IsList a its.toArray:=p.isList
  have han:a≠it:=by
   rintro rfl
   obtain ⟨o1,h1,h2,_⟩:=id hit
   obtain ⟨o2,h3,h4,_⟩:=id ht
   rw [h1] at h3;cases h3
   rw [h2] at h4;exact absurd (Value.type.inj h4) (by decide)
  have hae:a≠e:=by
   rintro rfl
   obtain ⟨o1,h1,h2,_⟩:=id hit
   rw [he] at h1;cases h1
   exact absurd (Value.type.inj h2) (by decide)
  have D:=Draws.list (prog:=X.prog) (w:=X.w) (A:=X.A.in1) (I.ok.hd hc) it a han its.toArray
  have hlt:i<its.toArray.size:=by
   have:=(List.getElem?_eq_some_iff.mp hx).1
   have hl:=rv.length
   rw [List.size_toArray];lia
  refine wpAny_pyNext_enum_itemD D he ⟨ht,hit⟩ hlt hei (by simp [hei,Ne.symm hae]) fun y g tk hy ho hst' htup hsz hk=>?_
  have e1:y=u:=by
   have:its.toArray[i]?=some u:=by simpa using hu
   rw [this] at hy;exact (Option.some.inj hy).symm
  subst e1
  refine ⟨_,rfl,?_⟩
  have helt:e<s.heap.objs.size:=Heap.lt_size he
  have hilt:it<s.heap.objs.size:=let ⟨o,z,_⟩:=ht;Heap.lt_size z
  have I1:Inv X aq σ (upd H s.heap.objs.size (.tup [.int i,x])) { s with heap:=g,toks:=tk+1 }:=by
   refine I.turnLaid (fp:=[e,it]) (fun b o hb z=>hk b o (fun q=>hb (by simp [q])) (fun q=>hb (by simp [q])) z) (fun b hb=>?_) hf (Nat.le_refl _) ?_
   ·rcases List.mem_cons.mp hb with rfl|hb
    ·exact ⟨_,ho⟩
    ·cases List.mem_singleton.mp hb
     exact let ⟨o,z,_⟩:=hst'.1;⟨o,z⟩
   ·exact ⟨by show 2≤sizeLine;decide,[.int i tk,y],.cons ⟨_,rfl⟩ (.cons ru .nil),⟨_,htup,rfl,_,rfl⟩⟩
  have hno:∀ b∈[e,it],(upd H s.heap.objs.size (.tup [.int i,x])) b=none:=fun b hb=>by
   have hbl:b<s.heap.objs.size:=by
    rcases List.mem_cons.mp hb with rfl|hb
    ·exact helt
    ·cases List.mem_singleton.mp hb;exact hilt
   rw [aX (Nat.ne_of_lt hbl)]
   exact (hf b hb).1
  refine wpAny_letOwnedTupleGo_enum ho fun g2 he2 hs2=>?_
  obtain ⟨f0,f1,f2,f3,f4,f5⟩:=hf e (by simp)
  refine ⟨.ref s.heap.objs.size,_,I1.turned (t':=tk+1) (fun b o hb z=>(hs2.2 b hb).trans z) (hno e (by simp)) f1 f3 f4 f5,rfl,⟨s.heap.objs.size,x,I.hok.fresh (Nat.le_refl _),rfl,fun ys hy=>by rw [I.list_inj hy hq];exact hx,rfl⟩,⟨⟨_,by simpa using he2⟩,?_⟩,hno⟩
  exact hst'.1.at fun o z=>(hs2.2 it (Ne.symm hei)).trans z
 done:=by
  intro X hP hw hK hc i aq s σ H E I hf st hg
  subst hP hw hK
  obtain ⟨xs,hq,hx⟩:=hg
  obtain ⟨its,rv,p,hz⟩:=I.list hq
  obtain ⟨⟨old,he⟩,ht⟩:=st
  obtain ⟨f0,f1,f2,f3,f4,f5⟩:=hf it (by simp)
  have hl:=rv.length
  have hit:s.heap.IsList a its.toArray:=p.isList
  have han:a≠it:=by
   rintro rfl
   obtain ⟨o1,h1,h2,_⟩:=id hit
   obtain ⟨o2,h3,h4,_⟩:=id ht
   rw [h1] at h3;cases h3
   rw [h2] at h4;exact absurd (Value.type.inj h4) (by decide)
  have D:=Hk (prog:=X.prog) (w:=X.w) (A:=X.A.in1) (I.ok.hd hc) it a han its.toArray i (by rw [List.size_toArray];lia)
  exact wpAny_pyNext_enum_endD D he ⟨ht,hit⟩ fun h' ex=>⟨rfl,I.turned (t':=s.toks) (fun b o hb e=>ex b o hb e) f0 f1 f3 f4 f5⟩
 self:=fun _ _ _ _ _ st h=>let ⟨_,he⟩:=st.1;wpAny_pyIter_enum he h
noncomputable def FQ (K:PySem.W.Frag) (ta:TA):TI:=fun σ H R=>ta σ H fun vs H1=>∃ a,vs=[.ref a]/\(∃ xs,bF K H1 a xs)/\R (wG K a) H1
theorem sG {X:Cx} {elts:List Expr} {k1} {pt:Pos} {a:Expr} {ta:TA} {p pos:Pos} (hg:Gl X "enumerate") (hm:X.mg "enumerate" = none) (hv:bootBuiltins "enumerate" = some (.type "enumerate")) (ha:PA X [a] ta) (hs:starEach [a] X.env=[(false,eval a X.env)]:=by rfl):PI X (.Tuple elts k1 pt) (.Call (.Name "enumerate" p) [a] [] pos) (FQ X.K ta):=by
 intro aq s σ H R I h
 refine Call_ (gG I hg hm hv (PyProof.Rows.callWith_type1 (cI (ha pos aq s σ H _ I h) fun us s1 ⟨vs,H1,I1,r1,q1⟩=>?_) hs rfl))
 obtain ⟨l,rfl,⟨xs,hq⟩,q⟩:=q1
 obtain ⟨u,rfl,e⟩:=vals1 r1
 cases (show u=Value.ref l from e)
 obtain ⟨its,rv,hp,hz⟩:=I1.list hq
 refine call_enumerate_list hp.isList fun g he hi _ hk=>wpAny_pyIter_enum he ?_
 refine ⟨s1.heap.objs.size+1,[s1.heap.objs.size+1,s1.heap.objs.size],_,_,H1,rfl,I1.kept (t':=s1.toks) hk,uF l _ s1.heap.objs.size (Nat.succ_ne_self _),⟨⟨_,he⟩,hi⟩,fun b hb=>?_,q⟩
 rcases List.mem_cons.mp hb with rfl|hb
 ·exact I1.fpOk (Nat.le_succ _) (I1.hok.fresh (Nat.le_succ _))
 ·cases List.mem_singleton.mp hb
  exact I1.fpOk (Nat.le_refl _) (I1.hok.fresh (Nat.le_refl _))
theorem wK {K:PySem.W.Frag} {a:Addr} {xs:List V} {g:TG} {tb:TS} {D:Ends} {σ:St} {H:Hp} (Pv:Nat->St->Hp->Prop) (h0:Pv 0 σ H) (hl:∀ i σ H,i≤xs.length->Pv i σ H->bF K H a xs)
 (hs:∀ i x σ H p,xs[i]?=some x->Pv i σ H->H p=none->g (.ref p) σ (upd H p (.tup [.int i,x])) fun σ2 H2=>tb { D with nx:=Pv (i+1),ct:=Pv (i+1),bk:=D.nx } σ2 H2)
 (hd:∀ σ H,Pv xs.length σ H->D.nx σ H) :
 ∃ W:Nat->Nat->St->Hp->Prop,(∃ m,W 0 m σ H)/\∀ i m σ H,W i m σ H->((wG K a).stop i H/\D.nx σ H)∨((wG K a).go i H/\∃ N:St->Hp->Prop,(∀ σ' H',N σ' H'->∃ m',m'<m/\W (i+1) m' σ' H')/\∀ x H',(wG K a).yld i H x H'->g x σ H' fun σ2 H2=>tb { D with nx:=N,ct:=N,bk:=D.nx } σ2 H2):=by
 refine ⟨fun i m σ H=>m=xs.length-i/\i≤xs.length/\Pv i σ H,⟨xs.length,by simp,Nat.zero_le _,h0⟩,?_⟩
 rintro i m σ H ⟨rfl,hi,p⟩
 have q:=hl i σ H hi p
 by_cases hlt:i<xs.length
 ·refine .inr ⟨⟨xs,xs[i],q,by simp [hlt]⟩,Pv (i+1),fun σ' H' z=>⟨xs.length-(i+1),by lia,rfl,hlt,z⟩,?_⟩
  rintro x H' ⟨p',y,hn,rfl,hy,rfl⟩
  exact hs i y σ H p' (hy xs q) p hn
 ·have e:i=xs.length:=by lia
  subst e
  exact .inl ⟨⟨xs,q,Nat.le_refl _⟩,hd σ H p⟩
end L2
namespace L2
open PySem PySem.Spec PyProof.Rows PySem.SeqAt PySem.Builtin PySem.Builtin.Str
end L2
namespace L2
open PySem PySem.Spec PyProof.Rows PySem.SeqAt PySem.Builtin
end L2
namespace L2
open PySem PySem.Spec PyProof.Rows PySem.SeqAt PySem.W Builtin.ObjectAttr
end L2
namespace L2
open PySem PySem.Spec PyProof.Rows PySem.SeqAt PySem.W
end L2
namespace L2
open PySem PySem.Spec PyProof.Rows
end L2
namespace L2
open PySem PySem.Spec PyProof.Rows PySem.SeqAt
noncomputable def m9 (σ:List Str) (v:Str):List Str:=if σ.any (· == v)=true then σ else σ++[v]
noncomputable def cL (val:Nat->Str) (i:Nat):List Str:=((List.range i).map val).foldl m9 []
theorem jk (val:Nat->Str):cL val 0=[]:=rfl
theorem gF (val:Nat->Str) (i:Nat):cL val (i+1)=m9 (cL val i) (val i):=by
 unfold cL;rw [List.range_succ,List.map_append,List.foldl_append];rfl
theorem wB (σ:List Str) (v k:Str):(m9 σ v).any (· == k)=(σ.any (· == k) || decide (k=v)):=by
 unfold m9
 by_cases h:σ.any (· == v)=true
 ·rw [if_pos h]
  by_cases e:k=v
  ·subst e;rw [h];simp
  ·simp [e]
 ·rw [if_neg h,List.any_append]
  by_cases e:k=v
  ·subst e;simp
  ·have hb:(v == k)=false:=by simpa [beq_iff_eq] using (fun h':v=k=>e h'.symm)
   simp [hb,e]
theorem i_ (σ:List Str) (v:Str):(m9 σ v).length=if σ.any (· == v) then σ.length else σ.length+1:=by
 unfold m9;split <;> simp
theorem dY (val:Nat->Str):∀ i,(cL val i).length≤i
 |0=>by rw [jk];exact Nat.le_refl _
 | i+1=>by
   rw [gF,i_]
   have ih:=dY val i
   split <;> lia
inductive StrsAre:List Value->List Str->Prop
 |nil:StrsAre [] []
 |cons {vs:List Value} {ns:List Str} (n:Str) (t:Tok):StrsAre vs ns->StrsAre (.str n t::vs) (n::ns)
theorem vD:∀ {vs:List Value} {ns:List Str},StrsAre vs ns->∀ (i:Nat) (v:Value),vs[i]?=some v->∃ t,v=.str (ns.getD i "") t
 |_,_,.nil,i,v,h=>by simp at h
 |_,_,.cons n t hr,0,v,h=>by simp at h;exact ⟨t,by rw [← h];rfl⟩
 | _,_,.cons n t hr,i+1,v,h=>by
   simp only [List.getElem?_cons_succ] at h
   obtain ⟨t',e⟩:=vD hr i v h
   exact ⟨t',by rw [e];rfl⟩
theorem mj {ns:List Str} (hn:ns.Nodup):∀ i,i≤ns.length->cL (fun i=>ns.getD i "") i=ns.take i
 |0,_=>by rw [jk,List.take_zero]
 | i+1,h=>by
   have hi:i<ns.length:=h
   rw [gF,mj hn i (Nat.le_of_lt hi),List.take_add_one,List.getElem?_eq_getElem hi]
   have e:ns.getD i "" = ns[i]:=by simp [List.getD_eq_getElem?_getD,hi]
   unfold m9
   rw [e,if_neg]
   ·rfl
   ·intro z
    rw [List.any_eq_true] at z
    obtain ⟨x,hx,hxe⟩:=z
    obtain ⟨j,hj,rfl⟩:=List.getElem_of_mem hx
    rw [List.getElem_take,beq_iff_eq] at hxe
    rw [List.length_take] at hj
    exact (List.pairwise_iff_getElem.mp hn) j i (by lia) hi (by lia) hxe
theorem mG {ns:List Str}:∀ i,i≤ns.length->(cL (fun i=>ns.getD i "") i).length=i->cL (fun i=>ns.getD i "") i=ns.take i/\(ns.take i).Nodup
 |0,_,_=>by rw [jk,List.take_zero];exact ⟨rfl,.nil⟩
 | i+1,h,hl=>by
   have hi:i<ns.length:=h
   have e:ns.getD i "" = ns[i]:=by simp [List.getD_eq_getElem?_getD,hi]
   rw [gF] at hl ⊢
   have le:=dY (fun i=>ns.getD i "") i
   rw [i_] at hl
   split at hl
   ·lia
   ·rename_i hn
    obtain ⟨e1,n1⟩:=mG (ns:=ns) i (by lia) (by lia)
    rw [e1,e] at hn
    rw [e1,List.take_add_one,List.getElem?_eq_getElem hi,e]
    unfold m9
    rw [if_neg hn]
    refine ⟨rfl,?_⟩
    show (ns.take i++[ns[i]]).Nodup
    rw [List.nodup_append]
    refine ⟨n1,by simp,?_⟩
    intro a ha b hb z
    rw [List.mem_singleton] at hb
    subst hb;subst z
    exact hn (List.any_eq_true.mpr ⟨_,ha,by simp⟩)
theorem uz {ns:List Str}:(ns.Nodup/\(cL (fun i=>ns.getD i "") ns.length).length=ns.length)∨(¬ ns.Nodup/\(cL (fun i=>ns.getD i "") ns.length).length<ns.length):=by
 by_cases h:ns.Nodup
 ·left
  refine ⟨h,?_⟩
  rw [mj h _ (Nat.le_refl _),List.take_length]
 ·right
  refine ⟨h,?_⟩
  have le:=dY (fun i=>ns.getD i "") ns.length
  by_cases e:(cL (fun i=>ns.getD i "") ns.length).length=ns.length
  ·have:=(mG _ (Nat.le_refl _) e).2
   rw [List.take_length] at this
   exact absurd this h
  ·lia
theorem iy {A:Around} {R:Result->Shared->Prop} {P:Nat->Value->Prop} {St:Nat->Shared->Prop} (W:WalksS prog w A.in1 I fp wr G n P St) (S:Addr) (hSf:S∉fp)
 (val:Nat->Str) (hval:∀ i v,P i v->∃ t,v=.str (val i) t) (hb:n+1<scanBound) :
 ∀ (k i:Nat) (s:Shared),n-i=k->i≤n->St i s->
   s.heap.SetOf (strKind prog w) S (fun k'=>(cL val i).any (· == k')) (cL val i).length->
   (∀ s',Moved (S::wr) G s s'->s'.heap.SetOf (strKind prog w) S (fun k'=>(cL val n).any (· == k')) (cL val n).length->R (.ok (.ret .none)) s')->
   codeAny (model prog w) A (.builtin "set.update.loop" ⟨[.ref S,.ref I],[]⟩) R s:=by
 have hSw:S∉wr:=fun h=>hSf (W.sub _ h)
 have hsub:∀ b∈wr,b∈S::wr:=fun b hb=>List.mem_cons_of_mem _ hb
 intro k
 induction k with
 | zero=>
   intro i s hk hi hst hS hR
   have hin:i=n:=by lia
   subst hin
   refine codeAny_builtin F.entry_set_update_loop ?_
   rw [Around.under_plainId F.plain_set_update_loop _]
   show wpAny _ A.in1 (pyNext (.ref I) >>= _) _ _ s
   refine wpAny_bind (W.done s _ _ hst fun s' hm=>?_)
   show wpAny _ A.in1 (ret Value.none) _ _ s'
   exact wpAny_pure (hR s' (hm.mono hsub) (by
    obtain ⟨o,es,ep,t,ho,rest⟩:=hS
    exact ⟨o,es,ep,t,hm.heap S _ hSw ho,rest⟩))
 | succ k ih=>
   intro i s hk hi hst hS hR
   have hlt:i<n:=by lia
   refine codeAny_builtin F.entry_set_update_loop ?_
   rw [Around.under_plainId F.plain_set_update_loop _]
   show wpAny _ A.in1 (pyNext (.ref I) >>= _) _ _ s
   refine wpAny_bind (W.item i s _ _ hlt hst fun v s' hP hst' hm=>?_)
   obtain ⟨t,rfl⟩:=hval i v hP
   have hS':s'.heap.SetOf (strKind prog w) S (fun k'=>(cL val i).any (· == k')) (cL val i).length:=by
    obtain ⟨o,es,ep,tb,ho,rest⟩:=hS
    exact ⟨o,es,ep,tb,hm.heap S _ hSw ho,rest⟩
   show wpAny _ A.in1 (holding [Value.str (val i) t] (setAdd S (.str (val i) t)) >>= _) _ _ s'
   refine wpAny_bind (wpAny_holding ?_)
   unfold setAdd
   refine wpAny_holding ?_
   refine wpAny_bind ((strKind prog w).pyHash (k:=val i) (strKind_is _ _ _ _) ?_)
   have hroom:(cL val i).length+1<scanBound:=by have:=dY val i;lia
   refine wpAny_setAddHashed_of (knd:=strKind prog w) (s:={ s' with toks:=s'.toks+1 }) (strKind_is _ _ _ _) rfl hS' hroom fun h' hsb hS2=>?_
   have hSi:h'.SetOf (strKind prog w) S (fun k'=>(cL val (i+1)).any (· == k')) (cL val (i+1)).length:=
    SetOf_congr hS2 (fun k'=>by rw [gF,wB]) (by rw [gF,i_])
   refine wpAny_pure ⟨plainId_quiet F.plain_set_update_loop _,ih (i+1) _ (by lia) hlt (W.frame _ s' _ _ hst' (Nat.le_succ _) fun b hb o e=>?_) hSi fun s'' hm'' hS''=>?_⟩
   ·rw [hsb.2 b (fun h:b=S=>hSf (by rw [← h];exact hb))];exact e
   ·refine hR s'' (Moved.trans W.gtrans ((hm.mono hsub).then_heap (Nat.le_succ _) fun b o hb e=>?_) hm'') hS''
    rw [hsb.2 b (fun h:b=S=>hb (by rw [h];exact List.mem_cons_self))];exact e
section
open PySem.F
theorem nR {A:Around} {s:Shared} {items:Array Value} {ns:List Str} {Q:Value->Shared->Prop}
 (hh:A.handled=none) (hl:s.heap.IsList l items) (hi:StrsAre items.toList ns) (hb:items.size+1<scanBound)
 (h:∀ (h':Heap) (tk:Nat),h'.SetOf (strKind prog w) s.heap.objs.size (fun k'=>(cL (fun i=>ns.getD i "") items.size).any (· == k')) (cL (fun i=>ns.getD i "") items.size).length->
  (∀ b o,b<s.heap.objs.size->s.heap.get? b=some o->h'.get? b=some o)->Q (.ref s.heap.objs.size) { s with heap:=h',toks:=tk }) :
 wpAny (model prog w) A (call (.type "set") [.ref l]) Q E s:=by
 obtain ⟨c,tl,hmro⟩:=F.called_set.mro
 have hmade:=F.called_set.made
 have hsub:=F.called_set.sub
 refine wpAny_call (codeAny_of_tree ?_)
 show wpAny _ _ (callAny (.type "set") _) _ _ _
 refine wpAny_pure ⟨Code.quiet_builtin _ (by ext),codeAny_builtin F.entry_type_call ?_⟩
 rw [Around.under_plain (weight_type_call_type "set" [.ref l] []) rfl]
 have h1:=F.called_set.notType
 have h2:=F.called_set.canCreate
 have hct:=F.typeCall_set_1 (.ref l)
 repeat (any_goals (first|assumption|wp_step))
 refine codeAny_mono (code_set_new_1 (.ref l) (E:=E) (Q₁:=fun obj s₁=>∃ led:Bool,obj=.ref s.heap.objs.size/\s₁={ s with heap:=s.heap.push { cls:=.type "set",dict:=none,data:=.set #[] 0 (.fresh 0 0 led) } }) fun led=>⟨led,rfl,rfl⟩) fun r s₁ hr=>?_
 cases r with
 |error e=>exact hr
 | ok fl=>
   cases fl with
   | ret obj=>
     obtain ⟨led,rfl,rfl⟩:=hr
     have hS:(s.heap.push { cls:=.type "set",dict:=none,data:=.set #[] 0 (.fresh 0 0 led) }).get? s.heap.objs.size=some { cls:=.type "set",dict:=none,data:=.set #[] 0 (.fresh 0 0 led) }:=Heap.get?_push_size _ rfl
     have hT:Shared.TypeIs { s with heap:=s.heap.push { cls:=.type "set",dict:=none,data:=.set #[] 0 (.fresh 0 0 led) } } (.ref s.heap.objs.size) "set":=⟨_,hS,rfl⟩
     have hli:=F.called_set.init.lookup
     have hbi:=F.called_set.init.bind (.ref s.heap.objs.size)
     repeat (any_goals (first|assumption|wp_step))
     refine codeAny_mono (codeAny_call_builtin (R:=wants (fun r s₂=>r=.none/\∃ h' tk,s₂={ s with heap:=h',toks:=tk }/\
      h'.SetOf (strKind prog w) s.heap.objs.size (fun k'=>(cL (fun i=>ns.getD i "") items.size).any (· == k')) (cL (fun i=>ns.getD i "") items.size).length/\
      (∀ b o,b<s.heap.objs.size->s.heap.get? b=some o->h'.get? b=some o)) E) F.called_set.init.plain F.entry_set_init (check_set_init_1 hT ?_)) fun r₂ s₂ hr₂=>?_
     ·obtain ⟨ol,hol,hcl,nl,hdl⟩:=hl
      obtain ⟨ocls,odict,odata,oslots⟩:=ol
      simp only at hcl hdl
      subst hcl;subst hdl
      have hol':(s.heap.push { cls:=.type "set",dict:=none,data:=.set #[] 0 (.fresh 0 0 led) }).get? l=some { cls:=.type "list",dict:=odict,data:=.seq items nl,slots:=oslots }:=Heap.get?_push_of_some _ hol
      have hsls:=F.sub_list_set
      have hslf:=F.sub_list_frozenset
      have hne:(Value.type "list" == Value.type "dict")=false:=by decide
      have hl1:(s.heap.push { cls:=.type "set",dict:=none,data:=.set #[] 0 (.fresh 0 0 led) }).IsList l items:=⟨_,hol',rfl,nl,rfl⟩
      unfold Builtin.«set.__init__» noKeywords Builtin.Frozenset.updateFrom
      generalize hPI:pyIter=PI
      wp_walk
      subst hPI
      refine wpAny_pyIter_list hl1 ?_
      refine wpAny_bind (wpAny_runValue ?_)
      have hlS:l<s.heap.objs.size:=Heap.lt_size hol
      have hh3:A.in1.in1.in1.handled=none:=by simp [hh]
      have hneI:l≠(s.heap.push { cls:=.type "set",dict:=none,data:=.set #[] 0 (.fresh 0 0 led) }).objs.size:=by
       rw [Heap.size_push];exact Nat.ne_of_lt (Nat.lt_succ_of_lt hlS)
      have hSf:s.heap.objs.size∉[(s.heap.push { cls:=.type "set",dict:=none,data:=.set #[] 0 (.fresh 0 0 led) }).objs.size,l]:=by
       rw [Heap.size_push];simp only [List.mem_cons,List.mem_singleton,List.not_mem_nil,or_false,not_or]
       exact ⟨Nat.ne_of_lt (Nat.lt_succ_self _),Nat.ne_of_gt hlS⟩
      have hval:∀ (i:Nat) (v:Value),items[i]?=some v->∃ t,v=.str ((fun i=>ns.getD i "") i) t:=fun i v hv=>
       vD hi i v (by rw [Array.getElem?_toList];exact hv)
      refine iy ((Walks.list hh3 _ l hneI items).toS) s.heap.objs.size
       hSf (fun i=>ns.getD i "") hval hb (items.size-0) 0 _ (by lia) (Nat.zero_le _)
       ⟨⟨_,Heap.get?_push_size _ rfl,rfl,rfl⟩,(hl1.push _)⟩ ?hS0 ?hR
      case hS0=>
       have hget:((s.heap.push { cls:=.type "set",dict:=none,data:=.set #[] 0 (.fresh 0 0 led) }).push { cls:=.type "list_iterator",data:=.fields #[.ref l,.int 0 0] }).get? s.heap.objs.size
        = some { cls:=.type "set",dict:=none,data:=.set #[] 0 (.fresh 0 0 led) }:=Heap.get?_push_of_some _ hS
       exact PyProof.Rows.SetOf_congr ((PyProof.Rows.setObjOf_fresh (knd:=strKind prog w) led).setOf hget (by unfold scanBound;lia)) (fun _=>rfl) rfl
      case hR=>
       intro s' hm hS'
       obtain ⟨h',g',d',tk',os'⟩:=s'
       have eg:g'=s.gens:=hm.gens
       have ed:d'=s.drawn:=hm.drawn
       have eo:os'=s.os:=hm.os
       subst eg;subst ed;subst eo
       show wpAny _ _ _ _ _ _
       refine wpAny_pure ?_
       show wpAny _ _ (ret Value.none) _ _ _
       refine wpAny_pure ⟨rfl,h',tk',rfl,hS',fun b o hb e=>?_⟩
       have hb1:b≠s.heap.objs.size:=Nat.ne_of_lt hb
       have hb2:b≠(s.heap.push { cls:=.type "set",dict:=none,data:=.set #[] 0 (.fresh 0 0 led) }).objs.size:=by
        rw [Heap.size_push];exact Nat.ne_of_lt (Nat.lt_succ_of_lt hb)
       exact hm.heap b o (by simp only [List.mem_cons,List.mem_singleton,List.not_mem_nil,or_false,not_or];exact ⟨hb1,hb2⟩) (Heap.get?_push_of_some _ (Heap.get?_push_of_some _ e))
     ·cases r₂ with
      |error e=>exact hr₂
      | ok fl₂=>
        cases fl₂ with
        | ret r=>
          obtain ⟨rfl,h',tk,rfl,hS',hk'⟩:=hr₂
          repeat (any_goals (first|assumption|wp_step))
          exact h _ _ hS' hk'
        |_=>exact hr₂.elim
   |_=>exact hr.elim
end
noncomputable def BZ (P:Program) (w:World) (a:Addr) (n:Nat):HO:=.ext fun h=>∃ S,h.SetOf (strKind P w) a S n
theorem BR (x:∃ S,h.SetOf (strKind P w) a S n):dm P w H h a (BZ P w a n):=by
 refine ⟨x,?_,fun h1 h2 z k=>?_⟩
 ·obtain ⟨S,o,es,ep,t,e,_⟩:=x
  exact ⟨o,e⟩
 ·obtain ⟨S,o,es,ep,t,e,r⟩:=z
  exact ⟨S,o,es,ep,t,k _ e,r⟩
theorem pU:∀ {ns:List Str} {us:List Value},Vals (ns.map V.str) us->StrsAre us ns
 |[],_,r=>by rw [List.map_nil] at r;cases r;exact .nil
 | n::ns,_,r=>by
   rw [List.map_cons] at r
   cases r with
   | cons r1 r=>
     obtain ⟨t,rfl⟩:=r1
     exact .cons n t (pU r)
theorem vX (hc:X.calm=true):gD X (.type "set") (fun xs H Q=>∃ (p:Addr) (ns:List Str),xs=[.ref p]/\bF X.K H p (ns.map V.str)/\ns.length≤1000/\∀ a n,H a=none->((ns.Nodup/\n=ns.length)∨(¬ ns.Nodup/\n<ns.length))->Q (.ref a) (upd H a (BZ X.prog X.w a n))):=by
 intro aq s σ H xs us Q I r h
 obtain ⟨p,ns,rfl,hq,hl,q⟩:=h
 obtain ⟨u,rfl,ru⟩:=vals1 r
 cases (show u=Value.ref p from ru)
 obtain ⟨its,rv,pl,hz⟩:=I.list hq
 have hlen:=rv.length
 rw [List.length_map] at hlen
 have hz':its.toArray.size=ns.length:=by rw [List.size_toArray,hlen]
 refine nR (ns:=ns) (I.ok.hd hc) pl.isList (pU rv) (by rw [hz'];exact Nat.lt_of_le_of_lt (show ns.length+1≤1001 by lia) (by decide)) fun h' tk hS kp=>?_
 rw [hz'] at hS
 exact ⟨.ref s.heap.objs.size,_,I.laid (t':=tk) (fun b o e=>kp b o (Heap.lt_size e) e) (Nat.le_refl _) (BR ⟨_,hS⟩),rfl,q _ _ (I.hok.fresh (Nat.le_refl _)) uz⟩
theorem vO:gD X (.builtin "len") (fun xs H Q=>∃ a n,xs=[.ref a]/\H a=some (BZ X.prog X.w a n)/\Q (.int n) H):=by
 intro aq s σ H xs us Q I r h
 obtain ⟨a,n,rfl,ha,q⟩:=h
 obtain ⟨u,rfl,ru⟩:=vals1 r
 cases (show u=Value.ref a from ru)
 obtain ⟨S,o,es,ep,t,e,hex,hd,hel,hS,hb,hf,rfl⟩:=(I.hok a _ ha).1
 exact call_len_set e hex hd hf (Int.lt_of_lt_of_le (Int.ofNat_lt.mpr hb) (by decide)) ⟨.int es.size,H,I.tok _,⟨_,rfl⟩,q⟩
section
variable {K:Type} [DecidableEq K]
end
end L2
namespace L2
open PySem PySem.Spec PyProof.Rows PySem.SeqAt PySem.W
end L2
namespace L2
open PySem PySem.Spec PyProof.Rows
end L2
namespace L2
open PySem PySem.Spec PyProof.Rows PySem.SeqAt PySem.W
end L2
namespace L2
open PySem PySem.Spec PyProof.Rows PySem.SeqAt
theorem Cd (I:Inv X aq σ H s) (h:Rep X.K H x d) (h':Rep X.K H x' d') (r:RelV x u) (r':RelV x' u):d=d':=by
 obtain rfl:=r.inj r'
 exact (Rep.fn I h h' r).1
noncomputable def eqDa (K:PySem.W.Frag) (H:Hp) (d:PyData) (u:Value):Bool:=@decide (∃ x e,Rep K H x e/\RelV x u/\bV e d=true) (Classical.propDecidable _)
theorem p_ (I:Inv X aq σ H s) (h:Rep X.K H x e) (r:RelV x u):eqDa X.K H d u=bV e d:=by
 unfold eqDa
 cases hp:bV e d with
 |true=>exact @decide_eq_true _ (Classical.propDecidable _) ⟨x,e,h,r,hp⟩
 | false=>
   refine @decide_eq_false _ (Classical.propDecidable _) ?_
   rintro ⟨x',e',h',r',p⟩
   rw [Cd I h h' r r',p] at hp
   cases hp
theorem sH (I:Inv X aq σ H s):∀ {xs:List V} {ds:List PyData} {its:List Value},bj X.K H xs ds->Vals xs its->its.any (eqDa X.K H d)=ds.any fun e=>bV e d
 |_,_,_,.nil,.nil=>rfl
 |_,_,_,.cons h t,.cons r rs=>by rw [List.any_cons,List.any_cons,p_ I h r,sH I t rs]
noncomputable def Oe (K:PySem.W.Frag) (neg:Bool):R2:=fun x y H Q=>∃ p xs ds d,Rep K H x d/\y=.ref p/\bF K H p xs/\bj K H xs ds/\bB ds≤60/\Q (.bl (if neg then !(ds.any fun e=>bV e d) else ds.any fun e=>bV e d)) H
theorem Aj (hu:X.A.units+64<cLine) (I:Inv X aq σ H s) (rx:RelV x v) (rd:Rep X.K H x d) (rs:bj X.K H xs ds) (r:Vals xs its) (hd:bB ds≤60) :
 ∀ w,w∈its.toArray->EqAt X.A.in1 s w v (eqDa X.K H d w):=fun w hw=>by
 obtain ⟨x',e,m,h1,h2⟩:=rQ rs r (by simpa using hw)
 rw [p_ I h1 h2]
 refine Ed I h1 rd h2 rx ?_
 show X.A.units+1+bI e<cLine
 have:=j9 m
 lia
theorem xm (hu:X.A.units+64<cLine):iI X (compareOp .NotIn) (Oe X.K true):=by
 intro aq s σ H x y v u Q I rx ry h
 obtain ⟨b,xs,ds,d,rd,rfl,hq,rs,hd,q⟩:=h
 cases (show u=Value.ref b from ry)
 obtain ⟨its,r,pl,hz⟩:=I.list hq
 refine SeqAt.notIn_listAt (eqDa X.K H d) pl.isList (Aj hu I rx rd rs r hd) ⟨.bl _,H,I,rfl,?_⟩
 rw [show its.toArray.any (eqDa X.K H d)=its.any (eqDa X.K H d) by simp,sH I rs r]
 exact q
noncomputable def Ce (K:PySem.W.Frag):V->List V->Hp->VK->Prop:=fun x vs H Q=>∃ (a:Addr) (y:V) (d:PyData) (xs:List V) (ds:List PyData),x=.ref a/\vs=[y]/\Rep K H y d/\bF K H a xs/\bj K H xs ds/\bB ds≤60/\(ds.any fun e=>bV e d)=true/\Q (.int (ds.findIdx fun e=>bV e d:Nat)) H
theorem xM (hu:X.A.units+64<cLine):FN X "list.index" (Ce X.K):=by
 intro aq s σ H x vs v us Q I rx rv h
 obtain ⟨a,y,d,xs,ds,rfl,rfl,rd,hq,rs,hd,hy,q⟩:=h
 cases (show v=Value.ref a from rx)
 obtain ⟨u,rfl,ru⟩:=vals1 rv
 obtain ⟨its,r,p,hz⟩:=I.list hq
 have at_:=Aj hu I ru rd rs r hd
 obtain ⟨⟨_,dd,_,sl⟩,ho,rfl,n,rfl⟩:=id p.isList
 have hlen:=r.length
 have hlen2:=rs.length
 have hj:ds.findIdx (fun e=>bV e d)<ds.length:=List.findIdx_lt_length_of_exists (by simpa using hy)
 have hn:=km
 have eqi:∀ i (hi:i<its.length) (hi':i<ds.length),eqDa X.K H d its[i]=bV ds[i] d:=fun i hi hi'=>by
  obtain ⟨x',hx',rx'⟩:=rs.get (i:=i) (d:=ds[i]) (List.getElem?_eq_getElem hi')
  obtain ⟨w',hw,rw'⟩:=r.get (i:=i) (x:=x') hx'
  rw [List.getElem?_eq_getElem hi] at hw
  cases Option.some.inj hw
  exact p_ I rx' rw'
 refine call_meets PySem.F.slot_list_index ⟨_,ho,rfl⟩ PySem.F.entry_list_index (PySem.F.args_list_index_2 _ _) (list_indexAt a its.toArray n dd sl u (eqDa X.K H d) (ds.findIdx fun e=>bV e d) (by rw [List.size_toArray];lia) (by lia) ?_ ?_) ⟨ho,at_,⟨.int (ds.findIdx (fun e=>bV e d):Nat),H,I.tok _,⟨_,rfl⟩,q⟩⟩
 ·show eqDa X.K H d its[ds.findIdx fun e=>bV e d]=true
  rw [eqi _ (by lia) hj]
  exact List.findIdx_getElem (w:=hj)
 ·intro m hm hlt
  show eqDa X.K H d its[m]=false
  rw [eqi m (by simpa using hm) (by lia)]
  have:=List.not_of_lt_findIdx (p:=fun e=>bV e d) (xs:=ds) hlt
  simpa using this
noncomputable def uZ (x n c:Int):Obj:={ cls:=.type "range_iterator",dict:=none,data:=.fields #[rawInt x,rawInt n,rawInt c],slots:=#[] }
theorem jG {s:Shared} {r:Addr} {lo hi:Int} {t u v:Tok} {Q:Value->Shared->Prop} (hr:IsRange s.heap r lo hi 1 t u v) (h1:-(2 ^ 62)≤lo) (h2:lo<2 ^ 62) (h3:-(2 ^ 62)≤hi) (h4:hi<2 ^ 62) (hn:lo≤hi)
 (h:Q (.ref s.heap.objs.size) { s with heap:=s.heap.push (uZ (hi-1) (hi-lo) (-1)) }):wpAny (model prog w) A (call (.builtin "range.__reversed__") [.ref r]) Q E s:=by
 refine wpAny_call_entry F.slot_range_reversed ⟨_,hr,rfl⟩ F.entry_range_reversed ?_ (F.args_range_reversed_1 _)
 unfold Builtin.«range.__reversed__»
 refine wpAny_bind (wpAny_of_eq (a:=Value.ref r) rfl ?_)
 have hsz:Builtin.Range.rangeSize lo hi 1=hi-lo:=by rw [rangeSize_one];split <;> lia
 have hsm:(Builtin.Range.rangeFitsLong lo && Builtin.Range.rangeFitsLong hi && Builtin.Range.rangeFitsLong 1 && Builtin.Range.rangeFitsLong (-1) && Builtin.Range.rangeFitsLong (lo-1) && Builtin.Range.rangeFitsLong (Builtin.Range.rangeSize lo hi 1))=true:=by
  rw [hsz]
  simp only [Builtin.Range.rangeFitsLong,Bool.and_eq_true,decide_eq_true_eq]
  lia
 unfold Builtin.Range.rangeFields
 refine wpAny_bind (wpAny_bind (wpAny_field hr rfl (x:=.int lo t) rfl ?_))
 refine wpAny_bind (wpAny_of_eq (a:=some lo) rfl ?_)
 refine wpAny_bind (wpAny_field hr rfl (x:=.int hi u) rfl ?_)
 refine wpAny_bind (wpAny_of_eq (a:=some hi) rfl ?_)
 refine wpAny_bind (wpAny_field hr rfl (x:=.int 1 v) rfl ?_)
 refine wpAny_bind (wpAny_of_eq (a:=some 1) rfl ?_)
 refine wpAny_pure ?_
 dsimp only
 rw [hsm]
 simp only [Bool.not_true,Bool.false_eq_true,if_false,if_true]
 refine wpAny_bind ?_
 unfold newFields
 refine wpAny_newObj_type (wpAny_pure ⟨_,rfl,?_⟩)
 rw [hsz,Int.mul_one,show lo+(hi-lo-1)=hi-1 by lia]
 exact h
theorem jJ {s:Shared} {r:Addr} {lo hi:Int} {t u v:Tok} {Q₁:Value->Shared->Prop} (hr:IsRange s.heap r lo hi 1 t u v) (h1:-(2 ^ 62)≤lo) (h2:lo<2 ^ 62) (h3:-(2 ^ 62)≤hi) (h4:hi<2 ^ 62) (hn:lo≤hi)
 (h:Q₁ (.ref s.heap.objs.size) { s with heap:=s.heap.push (uZ (hi-1) (hi-lo) (-1)) }) :
 codeAny (model prog w) A (.call (.builtin "reversed.__new__") ⟨[.type "reversed",.ref r],[]⟩) (wants Q₁ E) s:=by
 refine codeAny_of_tree ?_
 show wpAny _ A.in1 (do checkBuiltinCall "reversed.__new__" ⟨[.type "reversed",.ref r],[]⟩;again (.builtin "reversed.__new__" ⟨[.type "reversed",.ref r],[]⟩)) _ _ s
 refine wpAny_bind (wpAny_of_eq (F.newCall_reversed_1 _) (wpAny_pure ⟨plainId_quiet F.plain_reversed_new _,codeAny_builtin F.entry_reversed_new ?_⟩))
 rw [Around.under_plainId F.plain_reversed_new _]
 unfold Builtin.«reversed.__new__»
 refine wpAny_bind (wpAny_of_eq (newClass_reversed _) ?_)
 try dsimp only
 refine wpAny_bind (wpAny_of_eq (a:=()) (by first|rfl|kernel_rfl) ?_)
 refine wpAny_bind (wpAny_of_eq (a:=()) (by first|rfl|kernel_rfl) ?_)
 try dsimp only
 refine wpAny_bind (wpAny_specialOf ⟨_,hr,rfl⟩ F.slot_range_reversed.lookup ?_)
 try dsimp only
 refine wpAny_bind (wpAny_of_eq (F.slot_range_reversed.bind _) ?_)
 try dsimp only
 first
 |rw [if_neg (show ¬ ((Value.builtin "range.__reversed__" == Value.none)=true) from Bool.false_ne_true)]
 |(show wpAny _ _ (if (Value.builtin "range.__reversed__" == Value.none)=true then _ else _) _ _ _;rw [if_neg (show ¬ ((Value.builtin "range.__reversed__" == Value.none)=true) from Bool.false_ne_true)])
 refine wpAny_bind (wpAny_rule ?_)
 refine wpAny_bind (m:=runValue (.call (.builtin "range.__reversed__") ⟨[.ref r],[]⟩)) (show wpAny _ _ (call (.builtin "range.__reversed__") [.ref r]) _ _ _ from jG hr h1 h2 h3 h4 hn ?_)
 first
 |exact wpAny_pure h
 |exact wpAny_bind (wpAny_pure (wpAny_pure h))
theorem mO:isSubtype (.type "range_iterator") (.type "reversed")=pure false:=by rw [isSubtype_type];kernel_rfl
theorem gM {s:Shared} {r:Addr} {lo hi:Int} {t u v:Tok} {Q:Value->Shared->Prop} (hr:IsRange s.heap r lo hi 1 t u v) (h1:-(2 ^ 62)≤lo) (h2:lo<2 ^ 62) (h3:-(2 ^ 62)≤hi) (h4:hi<2 ^ 62) (hn:lo≤hi)
 (h:Q (.ref s.heap.objs.size) { s with heap:=s.heap.push (uZ (hi-1) (hi-lo) (-1)) }):wpAny (model prog w) A (call (.type "reversed") [.ref r]) Q E s:=by
 refine callType_other (U:="range_iterator") (Q₁:=fun obj s₁=>obj=.ref s.heap.objs.size/\s₁={ s with heap:=s.heap.push (uZ (hi-1) (hi-lo) (-1)) }) (by ext) F.create_reversed ⟨_,_,F.mro_reversed⟩ F.made_reversed mO (F.typeCall_reversed_1 _) (jJ hr h1 h2 h3 h4 hn ⟨rfl,rfl⟩) ?_
 rintro obj s₁ ⟨rfl,rfl⟩
 exact ⟨⟨_,Heap.get?_push_size _ rfl,rfl⟩,h⟩
noncomputable def HR (hi:Int) (n:Nat):It:=⟨fun i _=>i<n,fun i H x H'=>H'=H/\x=.int (hi-1-i),fun i _=>n≤i⟩
theorem qY {P:Program} {w:World} {K:PySem.W.Frag} {tg:Expr} (it:Addr) (hi:Int) (n:Nat):Turn P w K tg (HR hi n) [it] it (fun i h=>IsRangeIter h it (hi-1+(i:Nat)*(-1)) ((n:Int)-(i:Nat)) (-1)) where
 mem:=by simp
 obj:=fun i h st b hb=>by
  have e:b=it:=by simpa using hb
  subst e
  exact ⟨_,st,fun v z=>by
   have z':Data.fields _=Data.cell v:=z
   cases z'⟩
 keep:=fun i h h' st k=>k it (by simp) _ st
 item:=by
  intro X hP hw hK hc i aq s σ H E I hf st hg
  subst hP hw hK
  obtain ⟨f0,f1,f2,f3,f4,f5⟩:=hf it (by simp)
  have W:=Walks.range (prog:=X.prog) (w:=X.w) (I.ok.hd hc) it (hi-1) (-1) n
  refine W.item i s _ _ hg st fun v h' tk hv st' kk=>?_
  obtain ⟨t,rfl⟩:=hv
  have I1:Inv X aq σ H { s with heap:=h',toks:=tk }:=I.turned (fun b o hb e=>kk b o (by simpa using hb) e) f0 f1 f3 f4 f5
  refine ⟨_,rfl,sr (s:={ s with heap:=h',toks:=tk }) (n:="range_iterator") st' rfl rfl (by decide) ⟨.int (hi-1-i),H,I1,⟨t,?_⟩,⟨rfl,rfl⟩,st',fun b hb=>(hf b hb).1⟩⟩
  rw [show hi-1+(i:Int)*(-1)=hi-1-i by lia]
 done:=by
  intro X hP hw hK hc i aq s σ H E I hf st hg
  subst hP hw hK
  obtain ⟨f0,f1,f2,f3,f4,f5⟩:=hf it (by simp)
  exact wpAny_pyNext_range_end (I.ok.hd hc) st (by have:n≤i:=hg;lia) fun h' eb=>⟨rfl,I.turned (t':=s.toks) (fun b o hb e=>eb b o hb e) f0 f1 f3 f4 f5⟩
 self:=fun _ _ _ _ _ st h=>wpAny_pyIter_rangeiter st h
noncomputable def Pk (ta:TA):TI:=fun σ H R=>ta σ H fun vs H1=>∃ i j:Int,vs=[.int i,.int j]/\(-(2 ^ 62)≤i/\i<2 ^ 62/\-(2 ^ 62)≤j/\j<2 ^ 62/\i≤j)/\R (HR j (j-i).toNat) H1
theorem mF:bootBuiltins "reversed" = some (.type "reversed"):=by ext
theorem Fd (hg:Gl X "reversed") (hm:X.mg "reversed" = none) (hg2:Gl X "range") (hm2:X.mg "range" = none) (ha:PA X [a,b] ta)
 (hs:starEach [a,b] X.env=(false,eval a X.env)::starEach [b] X.env:=by rfl) (hs1:(backTo pos2 (starEach [b] X.env)).any (·.1)=false:=by rfl)
 (hs2:starEach [.Call (.Name "range" p2) [a,b] [] pos2] X.env=(false,eval (.Call (.Name "range" p2) [a,b] [] pos2) X.env)::starEach [] X.env:=by rfl) (hs3:(backTo pos (starEach [] X.env)).any (·.1)=false:=by rfl) :
 PI X tg (.Call (.Name "reversed" p) [.Call (.Name "range" p2) [a,b] [] pos2] [] pos) (Pk ta):=by
 intro aq s σ H R I h
 refine Call_ (gG I hg hm mF (PyProof.Rows.callWith_type1 ?_ hs2 hs3))
 rw [hs2]
 show wpAny _ _ (spliced ((false,eval (.Call (.Name "range" p2) [a,b] [] pos2) X.env)::backTo pos (starEach [] X.env))) _ _ s
 refine Calls.spliced_cons ?_
 refine wpAny_Call_Name_kw (gG I hg2 hm2 boot_range (PyProof.Rows.callWith_type1 (cI (ha pos2 aq s σ H _ I h) fun us s1 ⟨vs,H1,I1,r1,q1⟩=>?_) hs hs1) (by decide) (by decide))
 obtain ⟨i,j,rfl,⟨q1,q2,q3,q4,q5⟩,q⟩:=q1
 obtain ⟨u1,u2,rfl,e1,e2⟩:=vals2 r1
 obtain ⟨t,rfl⟩:=e1
 obtain ⟨t',rfl⟩:=e2
 refine call_range_2 ?_
 refine Calls.spliced_nil ?_
 refine gM (IsRange.new ..) q1 q2 q3 q4 q5 ?_
 have I2:Inv X aq σ H1 { s1 with heap:=s1.heap.push { cls:=.type "range",data:=.fields #[.int i t,.int j t',.int 1 s1.toks] },toks:=s1.toks+1 }:=I1.kept fun b o e=>Heap.get?_push_of_some _ e
 refine wpAny_pyIter_rangeiter (x:=j-1) (left:=j-i) (step:=-1) (Heap.get?_push_size _ rfl) ?_
 refine ⟨_,[(s1.heap.push { cls:=.type "range",data:=.fields #[.int i t,.int j t',.int 1 s1.toks] }).objs.size],_,_,H1,rfl,I2.kept (t':=s1.toks+1) fun b o e=>Heap.get?_push_of_some _ e,qY _ j (j-i).toNat,?_,fun b hb=>?_,q⟩
 ·show IsRangeIter _ _ (j-1+((0:Nat):Int)*(-1)) (((j-i).toNat:Int)-((0:Nat):Int)) (-1)
  rw [show j-1+((0:Nat):Int)*(-1)=j-1 by lia,show ((j-i).toNat:Int)-((0:Nat):Int)=j-i by lia]
  exact Heap.get?_push_size _ rfl
 ·have e:b=(s1.heap.push { cls:=.type "range",data:=.fields #[.int i t,.int j t',.int 1 s1.toks] }).objs.size:=by simpa using hb
  subst e
  exact I2.fpOk (Nat.le_refl _) (I2.hok.fresh (Nat.le_refl _))
theorem uJ {hi:Int} {n:Nat} {g:TG} {tb:TS} {D:Ends} {σ:St} {H:Hp} (Pv:Nat->St->Hp->Prop) (h0:Pv 0 σ H)
 (hs:∀ i σ H,i<n->Pv i σ H->g (.int (hi-1-i)) σ H fun σ2 H2=>tb { D with nx:=Pv (i+1),ct:=Pv (i+1),bk:=D.nx } σ2 H2) (hd:∀ σ H,Pv n σ H->D.nx σ H) :
 ∃ W:Nat->Nat->St->Hp->Prop,(∃ m,W 0 m σ H)/\∀ i m σ H,W i m σ H->
   ((HR hi n).stop i H/\D.nx σ H)∨((HR hi n).go i H/\∃ N:St->Hp->Prop,(∀ σ' H',N σ' H'->∃ m',m'<m/\W (i+1) m' σ' H')/\∀ x H',(HR hi n).yld i H x H'->g x σ H' fun σ2 H2=>tb { D with nx:=N,ct:=N,bk:=D.nx } σ2 H2):=by
 refine ⟨fun i m σ H=>m=n-i/\i≤n/\Pv i σ H,⟨n,by simp,Nat.zero_le _,h0⟩,?_⟩
 rintro i m σ H ⟨rfl,hi,p⟩
 by_cases hlt:i<n
 ·refine .inr ⟨hlt,Pv (i+1),fun σ' H' p'=>⟨n-(i+1),by lia,rfl,hlt,p'⟩,fun x H' y=>?_⟩
  obtain ⟨e,y⟩:=y
  subst e y
  exact hs i σ _ hlt p
 ·have e:i=n:=by lia
  subst e
  exact .inl ⟨Nat.le_refl _,hd σ H p⟩
open PySem.AutoSeq1 in
theorem kI (l:Addr) (items:Array Value) (n:Nat) (b:Addr) (items2:Array Value) (n2:Nat) (dd:Option Addr) (sl:Array (Option Value)) (hs0:¬(!items.isEmpty && Builtin.List.listTooLong (items.size+items2.size))=true) (hs1:items.size≤sizeLine) (hs2:items.size+items2.size≤sizeLine+1) :
 Meets (Builtin.«list.extend» ⟨[.ref l,.ref b],[]⟩) (fun _ R s=>s.heap.get? l=some { cls:=.type "list",dict:=none,data:=.seq items n,slots:=#[] }/\s.heap.get? b=some { cls:=.type "tuple",dict:=dd,data:=.seq items2 n2,slots:=sl }/\R (.ok (.ret Value.none)) { s with heap:=s.heap.update l (Obj.mapSeq fun x=>x++items2),toks:=s.toks }):=
 .of_wp fun prog w A R s h=>by
  obtain ⟨hp,g,d,tk,os⟩:=s;obtain ⟨hl,hb,h⟩:=h;have f1:=idx_int;have f2:=AutoSeq1.sub_tuple_tuple;have f3:=AutoSeq1.sub_list_list;have f4:=AutoSeq1.sub_tuple_list;have f5:=AutoSeq1.sub_list_tuple;
  have hz':(items++items2).size≤sizeLine+1:=by rw [Array.size_append];exact hs2
  wp_walk using (wpAny_updateSeq hl rfl (hz:=hs1) (_hz':=hz')),wpAny_loadPart' hl,wpAny_loadPart' hb;exact ⟨_,rfl,h⟩
noncomputable def yP:V->List V->Hp->VK->Prop:=fun x vs H Q=>∃ l b xs zs,x=.ref l/\vs=[.ref b]/\H l=some (.lst xs)/\H b=some (.tup zs)/\xs.length+zs.length≤sizeLine/\Q .non (upd H l (.lst (xs++zs)))
theorem sY:HX X "list.extend" yP:=by
 intro aq s σ H x vs v us Q I rx rv h
 obtain ⟨l,b,xs,zs,rfl,rfl,hH,hB,hz,q⟩:=h
 cases rx
 obtain ⟨u,rfl,ru⟩:=rv.one
 cases ru
 obtain ⟨z,its,n,r,hl,e⟩:=I.lstM hH
 obtain ⟨z2,its2,r2,o,h1,h2,n2,h3⟩:=(show dm X.prog X.w H s.heap b (.tup zs) from I.hok b _ hB)
 have hl2:=r2.length
 have hsz:its.toArray.size+its2.toArray.size≤sizeLine:=by rw [List.size_toArray,List.size_toArray];lia
 have hlong:¬ (!its.toArray.isEmpty && Builtin.List.listTooLong (its.toArray.size+its2.toArray.size))=true:=by
  rw [ou hsz,Bool.and_false]
  exact Bool.false_ne_true
 obtain ⟨c,dd,dt,sl⟩:=o
 cases (show c=Value.type "tuple" from h2)
 cases (show dt=Data.seq its2.toArray n2 from h3)
 refine call_meets F.slot_list_extend ⟨_,e,rfl⟩ F.entry_list_extend (F.args_list_extend_2 _ _)
  (kI l its.toArray n b its2.toArray n2 dd sl hlong (by rw [List.size_toArray];lia) (by lia)) ⟨e,h1,?_⟩
 refine ⟨.non,_,I.lset (its':=its++its2) hH e (by simp) (r.append r2) ?_,rfl,q⟩
 rw [List.length_append]
 lia
theorem uf {K:PySem.W.Frag} {a:Addr} {xs:List V} {g:TG} {te:TE} {F:List V->Hp->Prop} {σ0:St} {H0:Hp} (Pv:Nat->List V->St->Hp->Prop) (hn:xs.length≤sizeLine) (h0:Pv 0 [] σ0 H0) (hq:∀ i ys σ H,i≤xs.length->Pv i ys σ H->bF K H a xs)
 (hs:∀ i x ys σ H p,xs[i]?=some x->ys.length=i->Pv i ys σ H->H p=none->∀ N:List V->St->Hp->Prop,(∀ ys' σ' H',ys'.length=i+1->Pv (i+1) ys' σ' H'->N ys' σ' H')->g (.ref p) σ (upd H p (.tup [.int i,x])) fun σ2 H2=>te σ2 H2 fun y H3=>N (ys++[y]) σ2 H3)
 (hd:∀ ys σ H,ys.length=xs.length->Pv xs.length ys σ H->F ys H) :
 ∃ W:Nat->Nat->List V->St->Hp->Prop,(∃ m,W 0 m [] σ0 H0)/\ji (wG K a) g wM te F W:=by
 refine ⟨fun i m ys σ H=>m=xs.length-i/\i≤xs.length/\ys.length=i/\Pv i ys σ H,⟨xs.length,by simp,Nat.zero_le _,rfl,h0⟩,?_⟩
 rintro i m ys σ H ⟨rfl,hi,hl,p⟩
 have q:=hq i ys σ H hi p
 by_cases hlt:i<xs.length
 ·refine .inr ⟨⟨xs,xs[i],q,by simp [hlt]⟩,by lia,?_⟩
  rintro x H' ⟨p',y,hn',rfl,hy,rfl⟩
  exact hs i y ys σ H p' (hy xs q) hl p hn' (fun ys' σ' H'=>∃ m',m'<xs.length-i/\m'=xs.length-(i+1)/\i+1≤xs.length/\ys'.length=i+1/\Pv (i+1) ys' σ' H') fun ys' σ' H' hl' q=>⟨xs.length-(i+1),by lia,rfl,hlt,hl',q⟩
 ·have e:i=xs.length:=by lia
  subst e
  exact .inl ⟨⟨xs,q,Nat.le_refl _⟩,hd ys σ H hl p⟩
theorem yq:iI X (compareOp .Is) (fun x y H Q=>∃ b,y=.bl b/\((∃ c,x=.bl c)∨∃ i,x=.int i)/\Q (.bl (decide (x=.bl b))) H):=by
 intro aq s σ H x y v u Q I rx ry h
 obtain ⟨b,rfl,hx,q⟩:=h
 cases (show u=Value.bool b from ry)
 rcases hx with ⟨c,rfl⟩|⟨i,rfl⟩
 ·cases (show v=Value.bool c from rx)
  refine wpAny_is_plain (by cases b <;> cases c <;> rfl) (bZ I q ?_)
  cases b <;> cases c <;> rfl
 ·obtain ⟨t,rfl⟩:=(show ∃ t,v=Value.int i t from rx)
  exact wpAny_is_plain (by cases b <;> rfl) (bZ I q (by cases b <;> rfl))
noncomputable def M3 (ta:TA):TI:=fun σ H R=>ta σ H fun vs H1=>∃ j:Int,vs=[.int j]/\(0≤j/\j<2 ^ 62)/\R (HR j j.toNat) H1
theorem A_ (hg:Gl X "reversed") (hm:X.mg "reversed" = none) (hg2:Gl X "range") (hm2:X.mg "range" = none) (ha:PA X [a] ta)
 (hs:starEach [a] X.env=[(false,eval a X.env)]:=by rfl)
 (hs2:starEach [.Call (.Name "range" p2) [a] [] pos2] X.env=(false,eval (.Call (.Name "range" p2) [a] [] pos2) X.env)::starEach [] X.env:=by rfl) (hs3:(backTo pos (starEach [] X.env)).any (·.1)=false:=by rfl) :
 PI X tg (.Call (.Name "reversed" p) [.Call (.Name "range" p2) [a] [] pos2] [] pos) (M3 ta):=by
 intro aq s σ H R I h
 refine Call_ (gG I hg hm mF (PyProof.Rows.callWith_type1 ?_ hs2 hs3))
 rw [hs2]
 show wpAny _ _ (spliced ((false,eval (.Call (.Name "range" p2) [a] [] pos2) X.env)::backTo pos (starEach [] X.env))) _ _ s
 refine Calls.spliced_cons ?_
 refine wpAny_Call_Name_kw (gG I hg2 hm2 boot_range (PyProof.Rows.callWith_type1 (cI (ha pos2 aq s σ H _ I h) fun us s1 ⟨vs,H1,I1,r1,q1⟩=>?_) hs rfl) (by decide) (by decide))
 obtain ⟨j,rfl,⟨q0,q2⟩,q⟩:=q1
 cases r1 with
 |cons r rr=>
 cases rr
 obtain ⟨t,rfl⟩:=r
 refine call_range_1 ?_
 refine Calls.spliced_nil ?_
 refine gM (IsRange.new ..) (by decide) (by decide) (by lia) q2 q0 ?_
 have I2:Inv X aq σ H1 { s1 with heap:=s1.heap.push { cls:=.type "range",data:=.fields #[.int 0 s1.toks,.int j t,.int 1 (s1.toks+1)] },toks:=s1.toks+1+1 }:=I1.kept fun b o e=>Heap.get?_push_of_some _ e
 refine wpAny_pyIter_rangeiter (x:=j-1) (left:=j-0) (step:=-1) (Heap.get?_push_size _ rfl) ?_
 refine ⟨_,[(s1.heap.push { cls:=.type "range",data:=.fields #[.int 0 s1.toks,.int j t,.int 1 (s1.toks+1)] }).objs.size],_,_,H1,rfl,I2.kept (t':=s1.toks+1+1) fun b o e=>Heap.get?_push_of_some _ e,qY _ j j.toNat,?_,fun b hb=>?_,q⟩
 ·show IsRangeIter _ _ (j-1+((0:Nat):Int)*(-1)) ((j.toNat:Int)-((0:Nat):Int)) (-1)
  rw [show j-1+((0:Nat):Int)*(-1)=j-1 by lia,show (j.toNat:Int)-((0:Nat):Int)=j-0 by lia]
  exact Heap.get?_push_size _ rfl
 ·have e:b=(s1.heap.push { cls:=.type "range",data:=.fields #[.int 0 s1.toks,.int j t,.int 1 (s1.toks+1)] }).objs.size:=by simpa using hb
  subst e
  exact I2.fpOk (Nat.le_refl _) (I2.hok.fresh (Nat.le_refl _))
noncomputable def An:V->List V->Hp->VK->Prop:=fun x vs H Q=>∃ l b xs zs,x=.ref l/\vs=[.ref b]/\H l=some (.lst xs)/\H b=some (.lst zs)/\xs.length+zs.length≤sizeLine/\Q .non (upd H l (.lst (xs++zs)))
theorem uw:HX X "list.extend" An:=by
 intro aq s σ H x vs v us Q I rx rv h
 obtain ⟨l,b,xs,zs,rfl,rfl,hH,hB,hz,q⟩:=h
 cases rx
 obtain ⟨u,rfl,ru⟩:=rv.one
 cases ru
 obtain ⟨z,its,n,r,hl,e⟩:=I.lstM hH
 obtain ⟨z2,its2,n2,r2,hl2,e2⟩:=I.lstM hB
 have hx1:=r.length
 have hx2:=r2.length
 have hsz:its.toArray.size+its2.toArray.size≤sizeLine:=by rw [List.size_toArray,List.size_toArray];lia
 have hlong:¬ (!its.toArray.isEmpty && Builtin.List.listTooLong (its.toArray.size+its2.toArray.size))=true:=by
  rw [ou hsz,Bool.and_false]
  exact Bool.false_ne_true
 refine call_meets F.slot_list_extend ⟨_,e,rfl⟩ F.entry_list_extend (F.args_list_extend_2 _ _)
  (AutoSeq1.list_extend_list_list_0 l its.toArray n b its2.toArray n2 hlong (by rw [List.size_toArray];lia) (by lia)) ⟨e,e2,?_⟩
 refine ⟨.non,_,I.lset (its':=its++its2) hH e (by simp) (r.append r2) ?_,rfl,q⟩
 rw [List.length_append]
 lia
theorem vU {K:PySem.W.Frag} {a:Addr} {xs:List V} {g:TG} {tt:TT} {te:TE} {F:List V->Hp->Prop} {σ0:St} {H0:Hp} (Pv:Nat->List V->St->Hp->Prop) (hn:xs.length≤sizeLine) (h0:Pv 0 [] σ0 H0) (hq:∀ i ys σ H,i≤xs.length->Pv i ys σ H->bD K H a xs)
 (hs:∀ i x ys σ H,xs[i]?=some x->Pv i ys σ H->∀ N:List V->St->Hp->Prop,(∀ ys' σ' H',Pv (i+1) ys' σ' H'->ys'.length≤ys.length+1->N ys' σ' H')->g x σ H fun σ2 H2=>tt σ2 H2 fun b H3=>if b=true then te σ2 H3 fun y H4=>N (ys++[y]) σ2 H4 else N ys σ2 H3)
 (hd:∀ ys σ H,ys.length≤xs.length->Pv xs.length ys σ H->F ys H) :
 ∃ W:Nat->Nat->List V->St->Hp->Prop,(∃ m,W 0 m [] σ0 H0)/\ji (Fz K a) g tt te F W:=by
 refine ⟨fun i m ys σ H=>m=xs.length-i/\i≤xs.length/\ys.length≤i/\Pv i ys σ H,⟨xs.length,by simp,Nat.zero_le _,Nat.zero_le _,h0⟩,?_⟩
 rintro i m ys σ H ⟨rfl,hi,hl,p⟩
 have q:=hq i ys σ H hi p
 by_cases hlt:i<xs.length
 ·refine .inr ⟨⟨xs,xs[i],q,by simp [hlt]⟩,by lia,fun x H' y=>?_⟩
  obtain ⟨e,y⟩:=y
  subst e
  refine hs i x ys σ _ (y xs q) p (fun ys' σ' H'=>∃ m',m'<xs.length-i/\m'=xs.length-(i+1)/\i+1≤xs.length/\ys'.length≤i+1/\Pv (i+1) ys' σ' H') fun ys' σ' H' q hl'=>⟨xs.length-(i+1),by lia,rfl,hlt,by lia,q⟩
 ·have e:i=xs.length:=by lia
  subst e
  exact .inl ⟨⟨xs,q,Nat.le_refl _⟩,hd ys σ H hl p⟩
end L2
namespace L2
open PySem
theorem bO (D:cj X.K X.mg x st ps f fd) (F:aQ X.prog X.w X.K X.mg X.base bC k f fd ps sp) (hr:bR k X.A) (ha:PA X (e::es) t) (hg:Gl X x:=by rfl) (hdb:(x == ("__debug__" : Str))=false:=by decide) (he:starEach (e::es) X.env=(false,eval e X.env)::starEach es X.env:=by rfl) (hpl:(backTo pos (starEach es X.env)).any (·.1)=false:=by rfl):PE X (.Call (.Name x p) (e::es) [] pos) (mz sp [] E0 t):=jC F hr hg D.mg D.F.kp D.b .nil lC ha hdb he hpl
end L2
namespace Cm
open PySem L2
noncomputable def top (i:Nat):Stmt:=PySem.Challenge.pw_lanescribe_k11_whole_shorter_ways_tell_t.main.body.getD i (.Pass ⟨0,0,0,0⟩)
noncomputable def vI (c:Addr) (a r s:Int):List (Key×V):=[(.inr "cells",.ref c),(.inr "at",.int a),(.inr "rest",.int r),(.inr "seed",.int s)]
theorem pat:putK (vI c a r s) (.inr "at") (.int x)=vI c x r s:=by rfl
theorem Dy:putK (vI c a r s) (.inr "rest") (.int x)=vI c a x s:=by rfl
theorem Ec:putK (vI c a r s) (.inr "seed") (.int x)=vI c a r x:=by rfl
theorem xU (h:H p=some (.dK (vI c a r s))):jF H p (.str "cells") (some (.ref c)):=jF.k (k:=Sum.inr "cells") h
theorem Nb (h:H p=some (.dK (vI c a r s))):jF H p (.str "at") (some (.int a)):=jF.k (k:=Sum.inr "at") h
theorem vL (h:H p=some (.dK (vI c a r s))):jF H p (.str "rest") (some (.int r)):=jF.k (k:=Sum.inr "rest") h
theorem sI (h:H p=some (.dK (vI c a r s))):jF H p (.str "seed") (some (.int s)):=jF.k (k:=Sum.inr "seed") h
noncomputable abbrev HY:Int:=2305843009213693951
structure Dr (H:Hp) (p c:Addr):Prop where
 ex:∃ (ns:List Int) (a r s:Int),H p=some (.dK (vI c a r s))/\H c=some (.lst (ns.map V.int))/\ns.length≤63/\0≤a/\a≤ns.length/\0≤r/\0≤s/\s<HY
theorem Dr.mono (d:Dr H p c) (h:aC H H'):Dr H' p c:=by
 obtain ⟨ns,a,r,s,h1,h2,k⟩:=d.ex
 exact ⟨ns,a,r,s,h _ _ h1,h _ _ h2,k⟩
theorem Dr.ne (d:Dr H p c) (h:H q=some o) (hd:∀ kvs,o≠.dK kvs):q≠p:=by
 obtain ⟨ns,a,r,s,h1,_⟩:=d.ex
 exact gw h h1 (hd _)
theorem Dr.put (d:Dr H p c) (h1:q≠p) (h2:q≠c):Dr (upd H q o) p c:=by
 obtain ⟨ns,a,r,s,e1,e2,k⟩:=d.ex
 exact ⟨ns,a,r,s,by rw [aX h1.symm];exact e1,by rw [aX h2.symm];exact e2,k⟩
theorem Dr.cell (d:Dr H p c):∃ xs,H c=some (.lst xs):=by
 obtain ⟨ns,a,r,s,e1,e2,k⟩:=d.ex
 exact ⟨_,e2⟩
theorem Dr.neN (d:Dr H p c) (h:H q=none):p≠q:=by
 obtain ⟨ns,a,r,s,h1,_⟩:=d.ex
 exact aR h1 h
structure Txt (K:PySem.W.Frag) (mg:Str->Option Value):Prop where
 len:mg "len" = none
 range:mg "range" = none
 list:mg "list" = none
 tuple:mg "tuple" = none
 str:mg "str" = none
 bool:mg "bool" = none
 int:mg "int" = none
 min:mg "min" = none
 repr:mg "repr" = none
 all:mg "all" = none
 any:mg "any" = none
 isinstance:mg "isinstance" = none
section
variable {P:Program} {w:World} {K:PySem.W.Frag} {mg:Str->Option Value} {base:Heap}
noncomputable def uO (K:PySem.W.Frag):Sp:=fun vs H Q _=>∃ (a:Addr) (ns:List Int),vs=[.ref a]/\bF K H a (ns.map V.int)/\ns.length≤63/\∀ (p c:Addr) (H':Hp),Dr H' p c->aC H H'->H p=none->Q (.ref p) H'
theorem Mf:aU ["_law_script","_law_seed","_law_cell"] ["_law_script"] (aD (top 50)):=by ext
theorem ym (F:fc K "_law_begin" "_law_begin" (top 50) f fd) (T:Txt K mg):aQ P w K mg base bC 1 f fd ["_law_script"] (uO K):=by
 refine F.ok Mf (by ext) fun cdv A outer s H vs Q E hr h=>?_
 obtain ⟨a,ns,rfl,hS,hlen,k⟩:=h
 refine ⟨_,(ak (bc (i:=1) Mf.nd rfl (.inl rfl) aA)
  (ak (dH PassesOwn.never rfl (iQ (cG vm (pv 0) cW (cR aA))) (aK (i:=2) Mf.nd rfl (.inl rfl))
   (aB (bc (i:=1) Mf.nd rfl (.inl rfl) (bh iz (bh cH (bh cH (bh kj (pv 1) aA) (bh kj (pv 2) aA)) aA) aA))))
  (aB (aJ (vG (iC aM (g8 iW (by rfl) T.list lg (aa (cG vm (pv 0) cW (cR aA)) aj)) (iC aM aA (iC aM aA (iC aM (pv 1) v5)))) rfl rfl (List.cons_ne_nil _ _) (by show 4≤15;decide)))))),?_⟩
 have hcut:jj (ns.map V.int) none (some 63)=ns.map V.int:=by
  show ((ns.map V.int).drop (HT.eG _ 0 none)).take (HT.eG _ _ (some ((63:Nat):Int))-HT.eG _ 0 none)=_
  rw [HT.lq,HT.qp,List.drop_zero,Nat.sub_zero,List.take_of_length_le]
  rw [List.length_map];lia
 refine ⟨_,rfl,_,rfl,a,_,rfl,hS,fun q hq=>⟨q,rfl,⟨_,bF.of au⟩,?_⟩⟩
 rw [hcut]
 have hS':∀ o,bF K (upd H q o) a (ns.map V.int):=fun o=>(show aC H (upd H q o) from fun b u e=>by rw [aX (aR e hq)];exact e).seq hS
 refine rC (K:=K) (a:=q) (xs:=ns.map V.int) (fun i σ H2=>∃ (z:Int) (v:Option V),σ=[some (.ref a),some (.int z),v]/\0≤z/\z<HY/\H2=upd H q (.lst (ns.map V.int)))
  ⟨20011,none,rfl,by decide,by decide,rfl⟩ (fun i σ H2 _ ⟨_,_,_,_,_,e⟩=>by rw [e];exact bF.of au) ?_ ?_
 ·rintro i y σ H2 hi ⟨z,v,rfl,h0,h1,rfl⟩
  obtain ⟨n,-,rfl⟩:=List.mem_map.mp (List.mem_of_getElem? hi)
  refine ⟨_,rfl,_,_,rfl,rfl,.inl ⟨by lia,by simp only [HY] at h1;lia⟩,_,rfl,_,_,rfl,rfl,.inr ⟨by decide,by decide⟩,_,_,rfl,rfl,_,_,rfl,rfl,_,_,rfl,rfl,(by show (0:Int)<2305843009213693951;decide),?_⟩
  exact ⟨_,_,rfl,Int.emod_nonneg _ (by decide),Int.emod_lt_of_pos _ (by decide),rfl⟩
 ·rintro σ H2 ⟨z,v,rfl,h0,h1,rfl⟩
  intro p hp
  have s1:aC H (upd (upd H q (.lst (ns.map V.int))) p (.dK [])):=(aC.new hq).trans (aC.new hp)
  refine ⟨_,rfl,_,rfl,a,_,rfl,s1.seq hS,fun q2 hq2=>⟨q2,_,rfl,.inl (bF.of au),fun l hl=>⟨_,rfl,?_,vI l 0 0 z,rfl,by show 4≤15;decide,?_⟩⟩⟩
  ·exact (aC.new hl) _ _ ((aC.new hq2) _ _ au)
  ·rw [hcut]
   have hpl:(upd (upd (upd (upd H q (.lst (ns.map V.int))) p (.dK [])) q2 (.lst (ns.map V.int))) l (.lst (ns.map V.int))) p=some (.dK []):=(aC.new (by rw [hcut] at hl;exact hl)) _ _ ((aC.new hq2) _ _ au)
   have hlp:l≠p:=gw au hpl (by intro z;cases z)
   refine k p l _ ⟨ns,0,0,z,au,by rw [aX hlp];exact au,hlen,by decide,by lia,by decide,h0,h1⟩ ?_ ((aC.new hq).free hp)
   intro b u e
   have e1:=((aC.new (q:=l) (o:=.lst (ns.map V.int)) (by rw [hcut] at hl;exact hl)) _ _ ((aC.new hq2) _ _ (s1 b u e)))
   rw [aX (aR ((aC.new hq) b u e) hp)]
   exact e1
noncomputable def d_:Sp:=fun vs H Q _=>∃ (p c:Addr) (m:Int),vs=[.ref p,.int m]/\Dr H p c/\0<m/\m<340282366920938463463374607431768211456/\∀ (r:Int) (H':Hp),0≤r->r<m->Dr H' p c->bW p H H'->Q (.int r) H'
theorem Mh:aU ["_law_d","_law_many","_law_cell","_law_digit","_law_one"] ["_law_d","_law_many"] (aD (top 51)):=by ext
theorem dw (F:fc K "_law_pick" "_law_pick" (top 51) f fd) (T:Txt K mg):aQ P w K mg base bC 1 f fd ["_law_d","_law_many"] d_:=by
 refine F.ok Mh (by ext) fun cdv A outer s H vs Q E hr h=>?_
 obtain ⟨p,c,m,rfl,D,m0,m1,k⟩:=h
 have hu:=vC hr
 refine ⟨_,(ak
 (a_ (PW.pt (gW (aH bz (cU hu (pv 0) aM (fun _ _=>rfl)) aA (aN _)) (ir (aH jO (cU hu (pv 0) aM (fun _ _=>rfl)) (aG aO (by rfl) T.len bH (aa (cU hu (pv 0) aM (fun _ _=>rfl)) aj)) (aN _))))) (ak
 (bc (i:=2) Mh.nd rfl (.inl rfl) (aZ cF (cU hu (pv 0) aM (fun _ _=>rfl)) (cU hu (pv 0) aM (fun _ _=>rfl)) (fun _ _=>rfl)))
 (ak
 (iY hu (pv 0) aM (bh cH (cU hu (pv 0) aM (fun _ _=>rfl)) aA) rfl)
 (aB
 (a_ (aH Kw (pv 2) (bh t_ aA aA) (aN _)) (aB
 (iY hu (pv 0) aM (pv 2) rfl)) (aB
 (iY hu (pv 0) aM (bh iz (bh cH (bh cH (bh kj (cU hu (pv 0) aM (fun _ _=>rfl)) aA) (bh kj (pv 2) aA)) aA) aA) rfl)))))) aL)
 (ak
 (a_ (aH nW (cU hu (pv 0) aM (fun _ _=>rfl)) aA (aN _)) (ak
 (bc (i:=3) Mh.nd rfl (.inl rfl) (bh iz (cU hu (pv 0) aM (fun _ _=>rfl)) (pv 1)))
 (ak
 (iY hu (pv 0) aM (bh zJ (cU hu (pv 0) aM (fun _ _=>rfl)) (pv 1)) rfl)
 (aB
 (aJ (pv 3))))) aL)
 (ak
 (bc (i:=4) Mh.nd rfl (.inl rfl) (bh iz (bh kj (cU hu (pv 0) aM (fun _ _=>rfl)) (cU hu (pv 0) aM (fun _ _=>rfl))) aA))
 (ak
 (iY hu (pv 0) aM (bh iz (bh cH (bh cH (bh kj (pv 4) aA) (bh kj (cU hu (pv 0) aM (fun _ _=>rfl)) aA)) aA) aA) rfl)
 (aB
 (aJ (bh iz (bh uW (cU hu (pv 0) aM (fun _ _=>rfl)) aA) (pv 1)))))))),?_⟩
 obtain ⟨ns,a,r,sd,h1,h2,hl,a0,a1,r0,s0,s1⟩:=D.ex
 have npc:c≠p:=gw h2 h1 (by intro z;cases z)
 have small:∀ {x y z:Int},(vI c x y z).length<sizeLine:=fun {x y z}=>gf (by show 4≤1000;decide)
 refine eU (fun σ' H'=>∃ (a' r' sd':Int) (v:Option V),σ'=[some (.ref p),some (.int m),v,none,none]/\H' p=some (.dK (vI c a' r' sd'))/\bW p H H'/\0≤a'/\a'≤ns.length/\0≤r'/\0≤sd'/\sd'<HY) ?_ ?_
 ·rintro σ' H1 ⟨a',r',sd',v,rfl,e1,bt,b0,b1,c0,d0,d1⟩
  have hc1:∀ o,(upd H1 p o) c=some (.lst (ns.map V.int)):=fun o=>by rw [aX npc];exact bt c _ h2 npc
  refine ⟨_,rfl,p,_,rfl,vL e1,_,_,rfl,rfl,_,rfl,?_⟩
  refine dC (fun hpos=>?_) (fun _=>?_)
  ·refine ⟨_,rfl,p,_,rfl,vL e1,_,rfl,_,_,rfl,rfl,m0,?_⟩
   refine ⟨_,rfl,p,_,rfl,vL e1,_,rfl,_,_,rfl,rfl,⟨m0,m1⟩,_,rfl,p,_,rfl,nG.k (k:=Sum.inr "rest") e1 small,_,rfl,?_⟩
   rw [Dy]
   exact k _ _ (Int.emod_nonneg _ (by lia)) (Int.emod_lt_of_pos _ m0) ⟨ns,a',r' / m,sd',au,hc1 _,hl,b0,b1,Int.ediv_nonneg c0 (by lia),d0,d1⟩ (bt.trans bW.upd)
  ·have sq:Bh sd' sd':=.inl ⟨by lia,by simp only [HY] at d1;lia⟩
   refine ⟨_,rfl,p,_,rfl,sI e1,_,rfl,p,_,rfl,sI e1,_,_,rfl,rfl,sq,_,_,rfl,rfl,(by show (0:Int)<2305843009213693951;decide),?_⟩
   have u0:=Int.emod_nonneg (sd'*sd') (show (2305843009213693951:Int)≠0 by decide)
   have u1:=Int.emod_lt_of_pos (sd'*sd') (show (0:Int)<2305843009213693951 by decide)
   refine ⟨_,rfl,_,_,rfl,rfl,.inr ⟨by decide,by decide⟩,_,rfl,p,_,rfl,sI e1,_,_,rfl,rfl,.inr ⟨by decide,by decide⟩,_,_,rfl,rfl,_,_,rfl,rfl,_,_,rfl,rfl,(by show (0:Int)<2305843009213693951;decide),_,rfl,p,_,rfl,nG.k (k:=Sum.inr "seed") e1 small,?_⟩
   rw [Ec]
   generalize hsd:(sd'*sd' % 2305843009213693951*7+sd'*40503+12345) % 2305843009213693951=sn
   have v0:0≤sn:=hsd ▸ Int.emod_nonneg _ (by decide)
   have v1:sn<HY:=hsd ▸ Int.emod_lt_of_pos _ (by decide)
   refine ⟨_,rfl,p,_,rfl,sI au,_,_,rfl,rfl,⟨by decide,by decide⟩,_,rfl,_,_,rfl,rfl,m0,?_⟩
   exact k _ _ (Int.emod_nonneg _ (by lia)) (Int.emod_lt_of_pos _ m0) ⟨ns,a',r',sn,au,hc1 _,hl,b0,b1,c0,v0,v1⟩ (bt.trans bW.upd)
 ·intro N hN
  refine ⟨_,rfl,p,_,rfl,vL h1,rfl,_,rfl,?_⟩
  refine dC (fun hz=>?_) (fun _=>?_)
  ·refine ⟨_,rfl,p,_,rfl,Nb h1,_,rfl,p,_,rfl,xU h1,c,_,rfl,.inl (bF.of h2),_,_,rfl,rfl,_,rfl,?_⟩
   rw [List.length_map]
   refine dC (fun hlt=>?_) (fun _=>?_)
   ·have hlt:a<ns.length:=of_decide_eq_true hlt
    obtain ⟨z,hz'⟩:∃ z,ns[a.toNat]?=some z:=⟨_,List.getElem?_eq_getElem (by lia)⟩
    have hat:qj (ns.map V.int) a=some (.int z):=by
     have e:(a:Int)=((a.toNat:Nat):Int):=by lia
     rw [e]
     refine aF ?_
     rw [List.getElem?_map,hz'];rfl
    refine ⟨_,rfl,p,_,rfl,xU h1,_,rfl,p,_,rfl,Nb h1,c,_,_,_,rfl,rfl,bF.of h2,hat,?_⟩
    refine ⟨_,rfl,p,_,rfl,Nb h1,_,_,rfl,rfl,_,rfl,p,_,rfl,nG.k (k:=Sum.inr "at") h1 small,?_⟩
    rw [pat]
    refine ⟨_,rfl,_,_,rfl,rfl,⟨by decide,by decide,by decide⟩,_,_,rfl,rfl,_,rfl,?_⟩
    refine dC (fun hge=>?_) (fun _=>?_)
    ·refine ⟨_,rfl,_,rfl,p,_,rfl,nG.k (k:=Sum.inr "rest") au small,?_⟩
     rw [Dy]
     have hge:(10:Int) ^ 18≤z:=of_decide_eq_true hge
     exact hN _ _ ⟨a+1,z,sd,_,rfl,au,bW.upd.trans bW.upd,by lia,by lia,by lia,s0,s1⟩
    ·refine ⟨_,rfl,p,_,rfl,sI au,_,_,rfl,rfl,.inr ⟨by decide,by decide⟩,_,rfl,_,_,rfl,rfl,.inr ⟨by decide,by decide⟩,_,_,rfl,rfl,_,_,rfl,rfl,_,_,rfl,rfl,(by show (0:Int)<2305843009213693951;decide),_,rfl,p,_,rfl,nG.k (k:=Sum.inr "seed") au small,?_⟩
     rw [Ec]
     exact hN _ _ ⟨a+1,r,_,_,rfl,au,bW.upd.trans bW.upd,by lia,by lia,r0,Int.emod_nonneg _ (by decide),Int.emod_lt_of_pos _ (by decide)⟩
   ·exact hN _ _ ⟨a,r,sd,_,rfl,h1,bW.refl,a0,a1,r0,s0,s1⟩
  ·exact hN _ _ ⟨a,r,sd,_,rfl,h1,bW.refl,a0,a1,r0,s0,s1⟩
end
theorem Dr.dk (d:Dr H p c):∃ kvs,H p=some (.dK kvs):=by
 obtain ⟨ns,a,r,s,h1,_⟩:=d.ex
 exact ⟨_,h1⟩
theorem Dr.seq (d:Dr H p c) (e:bW p H H') (h:bF K H a xs):bF K H' a xs:=let ⟨_,hp⟩:=d.dk;e.seq hp h
theorem Dr.rep (d:Dr H p c) (e:bW p H H') (h:Rep K H v x):Rep K H' v x:=let ⟨_,hp⟩:=d.dk;h.but e hp
theorem Dr.reps (d:Dr H p c) (e:bW p H H') (h:bj K H v x):bj K H' v x:=let ⟨_,hp⟩:=d.dk;h.but e hp
theorem Dr.new (d:Dr H p c) (h:H q=none):Dr (upd H q o) p c:=d.mono (aC.new h)
noncomputable def oU (K:PySem.W.Frag):Sp:=fun vs H Q _=>∃ (p c q:Addr) (xs:List V),vs=[.ref p,.ref q]/\Dr H p c/\bF K H q xs/\xs≠[]/\xs.length≤1000/\∀ (x:V) (H':Hp),x∈xs->Dr H' p c->bW p H H'->Q x H'
theorem Qu:aU ["_law_d","_law_things"] ["_law_d","_law_things"] (aD (top 52)):=by ext
theorem lJ (F:fc K "_law_of" "_law_of" (top 52) f fd) (T:Txt K mg) (DP:cj K mg "_law_pick" (top 51) ["_law_d","_law_many"] fP fdP):aQ P w K mg base bC 2 f fd ["_law_d","_law_things"] (oU K):=by
 have GP:aQ P w K mg base bC 1 fP fdP ["_law_d","_law_many"] d_:=dw DP.F T
 refine F.ok Qu (by ext) fun cdv A outer s H vs Q E hr h=>?_
 obtain ⟨p,c,q,xs,rfl,D,hq,hne,hl,k⟩:=h
 refine ⟨_,(aB (aJ (aZ cF (pv 1) (bO DP GP hr (aa (pv 0) (aa (aG aO (by rfl) T.len bH (aa (pv 1) aj)) aj))) (fun _ _=>rfl)))),?_⟩
 have hpos:0<xs.length:=List.length_pos_iff.mpr hne
 refine ⟨_,rfl,_,rfl,_,rfl,q,xs,rfl,(.inl hq),p,c,_,rfl,D,by lia,by lia,fun r H' r0 r1 D' bt=>?_⟩
 obtain ⟨j,rfl⟩:=Int.eq_ofNat_of_zero_le r0
 have hx:j<xs.length:=by lia
 exact ⟨q,xs,_,xs[j],rfl,rfl,D.seq bt hq,aF (List.getElem?_eq_getElem hx),k _ _ (List.getElem_mem hx) D' bt⟩
noncomputable def spS (K:PySem.W.Frag):Nat->Sp
 |0=>fun _ _ _ _=>False
 |n+1=>fun vs H Q _=>∃ (x y:V) (d:PyData),vs=[x,y]/\Rep K H x d/\Rep K H y d/\bI d≤n/\gq d≤100000/\∀ H':Hp,aC H H'->Q (.bl true) H'
theorem Qj:aU ["_law_found","_law_due"] ["_law_found","_law_due"] (aD (top 54)):=by ext
theorem qg {Q:VK} {v:V} {H:Hp} (h:Q (.bl true) H):Q (.bl (decide (v=v))) H:=by rw [decide_eq_true rfl];exact h
theorem BJ {f:Addr} {fd:FuncData} (DS:cj K mg "_law_same" (top 54) ["_law_found","_law_due"] f fd) (T:Txt K mg) (n:Nat):aQ P w K mg base bC n f fd ["_law_found","_law_due"] (spS K n):=by
 refine Nat.rec (motive:=fun n=>aQ P w K mg base bC n f fd ["_law_found","_law_due"] (spS K n)) ⟨fun _ _ _ _ h=>h.elim,fun _ _ _ _ _ _ _ _ _ _ _ _ _ h=>h.elim⟩ (fun n GS=>?_) n
 refine DS.F.ok Qj (by ext) fun cdv A outer s H vs Q E hr h=>?_
 obtain ⟨x,y,d,rfl,hx,hy,hn,hm,k⟩:=h
 refine ⟨_,(ak
 (a_ (aH ut (pv 1) qi (aN _)) (aB
 (aJ (bN ut (pv 0) qi (aN _)))) aL)
 (ak
 (a_ (PW.pt (gJ (bU (aG bK (by rfl) T.isinstance aV (aa (pv 1) (aa (cP rfl T.bool gk) aj)))) (fJ (bU (aG bK (by rfl) T.isinstance aV (aa (pv 0) (aa (cP rfl T.bool gk) aj))))))) (aB
 (aJ (cA (aG bK (by rfl) T.isinstance aV (aa (pv 1) (aa (cP rfl T.bool gk) aj))) (cA (aG bK (by rfl) T.isinstance aV (aa (pv 0) (aa (cP rfl T.bool gk) aj))) (dI (bN bz (pv 0) (pv 1) (aN _))))))) aL)
 (ak
 (a_ (bU (aG pA (by rfl) T.isinstance aV (aa (pv 1) (aa (bu (aa (cP rfl T.int jX) (aa (cP rfl T.str nM) aj))) aj)))) (aB
 (aJ (cA (aG pA (by rfl) T.isinstance aV (aa (pv 0) (aa (bu (aa (cP rfl T.int jX) (aa (cP rfl T.str nM) aj))) aj))) (cA (bN bz (aG bK (by rfl) T.isinstance aV (aa (pv 0) (aa (cP rfl T.int jX) aj))) (aG bK (by rfl) T.isinstance aV (aa (pv 1) (aa (cP rfl T.int jX) aj))) (aN _)) (dI (bN bz (pv 0) (pv 1) (aN _))))))) aL)
 (ak
 (a_ (PW.pt (gJ (aH mC (aG bK (by rfl) T.isinstance aV (aa (pv 1) (aa (cP rfl T.list lg) aj))) (aG bK (by rfl) T.isinstance aV (aa (pv 0) (aa (cP rfl T.list lg) aj))) (aN _)) (fJ (aH mC (aG bK (by rfl) T.isinstance aV (aa (pv 1) (aa (cP rfl T.tuple fu) aj))) (aG bK (by rfl) T.isinstance aV (aa (pv 0) (aa (cP rfl T.tuple fu) aj))) (aN _))))) (aB
 (aJ cY)) aL)
 (aB
 (aJ (cA (bN bz (aG aO (by rfl) T.len bH (aa (pv 0) aj)) (aG aO (by rfl) T.len bH (aa (pv 1) aj)) (aN _)) (dI (aG (jy rfl) (by rfl) T.all qC (aa (gR (own:=["_law_k"]) (js:=[0,1]) (N':=["_law_k","_law_found","_law_due"]) (bL.of (osc:=aD (top 54)) (N:=["_law_found","_law_due"]) rfl rfl (by ext)) rfl (dG rfl T.range (aa (aG aO (by rfl) T.len bH (aa (pv 1) aj)) aj)) (fun _ _ _ _ _=>(aK (i:=0) (show List.Nodup (["_law_k","_law_found","_law_due"]:List Str) by ext) rfl (.inl rfl) (.inr rfl))) (fun _ _ _ _ _=>dF) (fun _ _ _ _ _=>(bO DS GS hr (aa (aZ (r:=Oi K) zx (pv 1) (pv 0) (fun _ _=>rfl)) (aa (aZ (r:=Oi K) zx (pv 2) (pv 0) (fun _ _=>rfl)) aj))))) aj)))))))))),?_⟩
 have z2:2≤sizeLine:=by decide
 cases hx with
 | non=>
   cases hy
   refine ⟨_,rfl,rfl,_,rfl,b_ rfl ?_⟩
   exact ⟨_,rfl,rfl,k _ (aC.refl _)⟩
 | bl b=>
   cases hy
   refine ⟨_,rfl,rfl,_,rfl,bJ rfl ?_⟩
   refine ⟨_,rfl,_,_,_,_,rfl,(.bl b),rfl,_,rfl,b_ rfl (b_ rfl ?_)⟩
   exact ⟨_,rfl,_,_,_,_,rfl,(.bl b),rfl,_,rfl,b_ rfl ⟨_,rfl,_,_,_,_,rfl,(.bl b),rfl,_,rfl,b_ rfl ⟨_,rfl,_,rfl,rfl,qg (k _ (aC.refl _))⟩⟩⟩
 | int i=>
   cases hy
   refine ⟨_,rfl,rfl,_,rfl,bJ rfl ?_⟩
   refine ⟨_,rfl,_,_,_,_,rfl,(.int i),rfl,_,rfl,bJ rfl ?_⟩
   refine ⟨_,rfl,_,_,_,_,rfl,(.int i),rfl,_,rfl,bJ rfl ?_⟩
   refine ⟨_,rfl,z2,fun p hp=>⟨_,p,_,_,_,_,rfl,au,.int i,rfl,_,rfl,b_ rfl ?_⟩⟩
   refine ⟨_,rfl,z2,fun p2 hp2=>⟨_,p2,_,_,_,_,rfl,au,.int i,rfl,_,rfl,b_ rfl ?_⟩⟩
   refine ⟨_,rfl,_,_,_,_,rfl,.int i,rfl,_,rfl,_,_,_,_,rfl,.int i,rfl,rfl,_,rfl,?_⟩
   exact b_ rfl ⟨_,rfl,_,rfl,rfl,qg (k _ ((aC.new hp).trans (aC.new hp2)))⟩
 | str z=>
   cases hy
   refine ⟨_,rfl,rfl,_,rfl,bJ rfl ?_⟩
   refine ⟨_,rfl,_,_,_,_,rfl,(.str z),rfl,_,rfl,bJ rfl ?_⟩
   refine ⟨_,rfl,_,_,_,_,rfl,(.str z),rfl,_,rfl,bJ rfl ?_⟩
   refine ⟨_,rfl,z2,fun p hp=>⟨_,p,_,_,_,_,rfl,au,.str z,rfl,_,rfl,b_ rfl ?_⟩⟩
   refine ⟨_,rfl,z2,fun p2 hp2=>⟨_,p2,_,_,_,_,rfl,au,.str z,rfl,_,rfl,b_ rfl ?_⟩⟩
   refine ⟨_,rfl,_,_,_,_,rfl,.str z,rfl,_,rfl,_,_,_,_,rfl,.str z,rfl,rfl,_,rfl,?_⟩
   exact b_ rfl ⟨_,rfl,_,rfl,rfl,qg (k _ ((aC.new hp).trans (aC.new hp2)))⟩
 | tup g rs=>
   cases hy with
   | tup g2 rs2=>
     rename_i a1 xs1 ds a2 xs2
     refine ⟨_,rfl,rfl,_,rfl,bJ rfl ?_⟩
     refine ⟨_,rfl,_,_,_,_,rfl,(.tup g2 rs2),rfl,_,rfl,bJ rfl ?_⟩
     refine ⟨_,rfl,_,_,_,_,rfl,(.tup g rs),rfl,_,rfl,bJ rfl ?_⟩
     refine ⟨_,rfl,z2,fun p hp=>⟨_,p,_,_,_,_,rfl,au,Rep.same (.tup g2 rs2) (aC.new hp),rfl,_,rfl,bJ rfl ?_⟩⟩
     have s1:aC H (upd H p (.tup [.ty "int",.ty "str"])):=aC.new hp
     refine ⟨_,rfl,_,_,_,_,rfl,(Rep.same (.tup g2 rs2) s1),rfl,_,rfl,_,_,_,_,rfl,(Rep.same (.tup g rs) s1),rfl,rfl,_,rfl,bJ rfl ?_⟩
     refine ⟨_,rfl,_,_,_,_,rfl,(Rep.same (.tup g2 rs2) s1),rfl,_,rfl,_,_,_,_,rfl,(Rep.same (.tup g rs) s1),rfl,rfl,_,rfl,bJ rfl ?_⟩
     refine ⟨_,rfl,_,_,rfl,.inr (s1.tup g),_,rfl,_,_,rfl,.inr (s1.tup g2),rfl,_,rfl,?_⟩
     have l1:=rs.length
     have l2:=rs2.length
     have hm':xs2.length≤100000:=by simp only [gq] at hm;lia
     have hl:xs1.length=xs2.length:=by lia
     generalize upd H p (.tup [.ty "int",.ty "str"])=H1 at s1 ⊢
     refine b_ (by rw [hl];simp) ?_
     obtain ⟨n,rfl⟩:∃ n',n=n'+1:=⟨n-1,by simp only [bI] at hn;lia⟩
     refine ⟨_,rfl,_,_,rfl,.inr (s1.tup g2),_,rfl,by lia,by lia,?_⟩
     refine jY (n:=xs2.length) (fun i ys σ' H'=>∃ (v:Option V),ys=(List.replicate i true).map V.bl/\σ'=[v,some _,some _]/\aC H1 H') (by exact Nat.le_trans hm' (by decide)) ⟨none,rfl,rfl,aC.refl _⟩ ?_ ?_
     ·rintro i ys σ' H' hi hys ⟨v,rfl,rfl,s2⟩ N hN
      obtain ⟨d1,e1,r1⟩:=rs.get' (i:=i) (x:=xs1[i]) (List.getElem?_eq_getElem (by lia))
      obtain ⟨d2,e2,r2⟩:=rs2.get' (i:=i) (x:=xs2[i]) (List.getElem?_eq_getElem hi)
      rw [e1] at e2
      cases e2
      have m1:=List.mem_of_getElem? e1
      have q1:=j9 m1
      have q2:=oh m1
      have at1:qj xs1 (0+(i:Int))=some xs1[i]:=by rw [Int.zero_add];exact aF (List.getElem?_eq_getElem (by lia))
      have at2:qj xs2 (0+(i:Int))=some xs2[i]:=by rw [Int.zero_add];exact aF (List.getElem?_eq_getElem hi)
      refine ⟨_,rfl,_,rfl,.inr (.inl ⟨_,_,_,_,rfl,rfl,(s1.trans s2).tup g,at1,?_⟩)⟩
      refine ⟨_,rfl,_,rfl,.inr (.inl ⟨_,_,_,_,rfl,rfl,(s1.trans s2).tup g2,at2,?_⟩)⟩
      refine ⟨_,_,d1,rfl,r1.same (s1.trans s2),r2.same (s1.trans s2),?_,?_,fun H'' s3=>?_⟩
      ·simp only [bI] at hn;lia
      ·simp only [gq] at hm;lia
      exact hN _ _ _ (by simp) ⟨_,by rw [List.replicate_succ',List.map_append];rfl,rfl,s2.trans s3⟩
     ·rintro ys σ' H' hys ⟨v,rfl,rfl,s2⟩
      refine ⟨by rw [List.length_map,List.length_replicate];exact Nat.le_trans hm' (by decide),fun q hq=>⟨q,_,rfl,bF.of au,?_⟩⟩
      show Q (.bl ((List.replicate xs2.length true).all id)) _
      rw [show (List.replicate xs2.length true).all id=true by simp]
      exact k _ ((s1.trans s2).trans (aC.new hq))
 | lst g rs=>
   cases hy with
   | lst g2 rs2=>
     rename_i a1 xs1 ds a2 xs2
     refine ⟨_,rfl,rfl,_,rfl,bJ rfl ?_⟩
     refine ⟨_,rfl,_,_,_,_,rfl,(.lst g2 rs2),rfl,_,rfl,bJ rfl ?_⟩
     refine ⟨_,rfl,_,_,_,_,rfl,(.lst g rs),rfl,_,rfl,bJ rfl ?_⟩
     refine ⟨_,rfl,z2,fun p hp=>⟨_,p,_,_,_,_,rfl,au,Rep.same (.lst g2 rs2) (aC.new hp),rfl,_,rfl,bJ rfl ?_⟩⟩
     have s1:aC H (upd H p (.tup [.ty "int",.ty "str"])):=aC.new hp
     refine ⟨_,rfl,_,_,_,_,rfl,(Rep.same (.lst g2 rs2) s1),rfl,_,rfl,_,_,_,_,rfl,(Rep.same (.lst g rs) s1),rfl,rfl,_,rfl,bJ rfl ?_⟩
     refine ⟨_,rfl,_,_,_,_,rfl,(Rep.same (.lst g2 rs2) s1),rfl,_,rfl,_,_,_,_,rfl,(Rep.same (.lst g rs) s1),rfl,rfl,_,rfl,bJ rfl ?_⟩
     refine ⟨_,rfl,_,_,rfl,.inl (s1.seq g),_,rfl,_,_,rfl,.inl (s1.seq g2),rfl,_,rfl,?_⟩
     have l1:=rs.length
     have l2:=rs2.length
     have hm':xs2.length≤100000:=by simp only [gq] at hm;lia
     have hl:xs1.length=xs2.length:=by lia
     generalize upd H p (.tup [.ty "int",.ty "str"])=H1 at s1 ⊢
     refine b_ (by rw [hl];simp) ?_
     obtain ⟨n,rfl⟩:∃ n',n=n'+1:=⟨n-1,by simp only [bI] at hn;lia⟩
     refine ⟨_,rfl,_,_,rfl,.inl (s1.seq g2),_,rfl,by lia,by lia,?_⟩
     refine jY (n:=xs2.length) (fun i ys σ' H'=>∃ (v:Option V),ys=(List.replicate i true).map V.bl/\σ'=[v,some _,some _]/\aC H1 H') (by exact Nat.le_trans hm' (by decide)) ⟨none,rfl,rfl,aC.refl _⟩ ?_ ?_
     ·rintro i ys σ' H' hi hys ⟨v,rfl,rfl,s2⟩ N hN
      obtain ⟨d1,e1,r1⟩:=rs.get' (i:=i) (x:=xs1[i]) (List.getElem?_eq_getElem (by lia))
      obtain ⟨d2,e2,r2⟩:=rs2.get' (i:=i) (x:=xs2[i]) (List.getElem?_eq_getElem hi)
      rw [e1] at e2
      cases e2
      have m1:=List.mem_of_getElem? e1
      have q1:=j9 m1
      have q2:=oh m1
      have at1:qj xs1 (0+(i:Int))=some xs1[i]:=by rw [Int.zero_add];exact aF (List.getElem?_eq_getElem (by lia))
      have at2:qj xs2 (0+(i:Int))=some xs2[i]:=by rw [Int.zero_add];exact aF (List.getElem?_eq_getElem hi)
      refine ⟨_,rfl,_,rfl,.inl ⟨_,_,_,_,rfl,rfl,(s1.trans s2).seq g,at1,?_⟩⟩
      refine ⟨_,rfl,_,rfl,.inl ⟨_,_,_,_,rfl,rfl,(s1.trans s2).seq g2,at2,?_⟩⟩
      refine ⟨_,_,d1,rfl,r1.same (s1.trans s2),r2.same (s1.trans s2),?_,?_,fun H'' s3=>?_⟩
      ·simp only [bI] at hn;lia
      ·simp only [gq] at hm;lia
      exact hN _ _ _ (by simp) ⟨_,by rw [List.replicate_succ',List.map_append];rfl,rfl,s2.trans s3⟩
     ·rintro ys σ' H' hys ⟨v,rfl,rfl,s2⟩
      refine ⟨by rw [List.length_map,List.length_replicate];exact Nat.le_trans hm' (by decide),fun q hq=>⟨q,_,rfl,bF.of au,?_⟩⟩
      show Q (.bl ((List.replicate xs2.length true).all id)) _
      rw [show (List.replicate xs2.length true).all id=true by simp]
      exact k _ ((s1.trans s2).trans (aC.new hq))
noncomputable def Lc (x:Str):Prop:=∀ c∈x.cps.toList,97≤c/\c≤122
structure Nm (x:Str):Prop where
 lo:1≤x.length
 hi:x.length≤8
 lc:Lc x
theorem Lc.app (a:Lc x) (b:Lc y):Lc (x++y):=fun c hc=>by
 rw [Str.cps_append,Array.toList_append,List.mem_append] at hc
 exact hc.elim (a c) (b c)
theorem nD (sep:Str) (hs:sep.cps.toList=[]):∀ ys:List Str,(Str.join sep ys).cps.toList=(ys.map (·.cps.toList)).flatten
 |[]=>rfl
 |[x]=>by show x.cps.toList=_;simp
 | x::y::r=>by
   show (x++sep++Str.join sep (y::r)).cps.toList=_
   rw [Str.cps_append,Array.toList_append,Str.cps_append,Array.toList_append,hs,List.append_nil,nD sep hs (y::r),List.map_cons (l:=y::r),List.flatten_cons]
theorem x_ (sep:Str) (ys:List Str):PySem.Txt.join sep ys=Str.join sep ys:=by
 show PySem.Builtin.Str.glued sep ys=_
 rw [PySem.StrLaws.glued_eq_join]
theorem vg (x:Str):x.length=x.cps.toList.length:=by simp [Str.length]
section
variable {P:Program} {w:World} {K:PySem.W.Frag} {mg:Str->Option Value} {base:Heap}
noncomputable def nO:Sp:=fun vs H Q _=>∃ (p dc:Addr),vs=[.ref p]/\Dr H p dc/\∀ (x:Str) (H':Hp),Nm x->Dr H' p dc->bW p H H'->Q (.str x) H'
theorem IK:aU ["_law_d","_law_letters","_law_first","_law_size","_law_some"] ["_law_d"] (aD (top 55)):=by ext
theorem uv (h:qj ("abcdefghijklmnopqrstuvwxyz" : Str).cps.toList i=some c):97≤c/\c≤122:=by
 have:c∈("abcdefghijklmnopqrstuvwxyz" : Str).cps.toList:=by
  unfold qj at h
  obtain ⟨j,_,e⟩:=Option.bind_eq_some_iff.mp h
  exact List.mem_of_getElem? e
 have all:∀ c∈("abcdefghijklmnopqrstuvwxyz" : Str).cps.toList,97≤c/\c≤122:=by ext
 exact all c this
theorem qD (F:fc K "_law_word" "_law_word" (top 55) f fd) (T:Txt K mg) (DP:cj K mg "_law_pick" (top 51) ["_law_d","_law_many"] fP fdP) (DO:cj K mg "_law_of" (top 52) ["_law_d","_law_things"] fO fdO) :
 aQ P w K mg base bC 3 f fd ["_law_d"] nO:=by
 have GP:aQ P w K mg base bC 1 fP fdP ["_law_d","_law_many"] d_:=dw DP.F T
 have GO:aQ P w K mg base bC 2 fO fdO ["_law_d","_law_things"] (oU K):=lJ DO.F T DP
 refine F.ok IK (by ext) fun cdv A outer s H vs Q E hr h=>?_
 obtain ⟨p,dc,rfl,D,k⟩:=h
 have hr1:bR 1 _:=hr.mono (by decide)
 refine ⟨_,(ak
 (bc (i:=1) IK.nd rfl (.inr rfl) aM)
 (ak
 (bc (i:=2) IK.nd rfl (.inl rfl) (bO DO GO hr (aa (pv 0) (aa (bM (aa aM (aa aM (aa aM (aa aM (aa aM aj)))))) aj))))
 (ak
 (bc (i:=3) IK.nd rfl (.inl rfl) (bh cH aA (bO DP GP hr1 (aa (pv 0) (aa (bh dM aA (aG iR (by rfl) T.len bH (aa (pv 2) aj))) aj)))))
 (ak
 (bc (i:=4) IK.nd rfl (.inl rfl) (h_ PySem.F.plainAttrs_str PySem.F.slot_str_join PySem.F.type_str_join CJ aM (aa (gR (own:=["_law_k"]) (js:=[1,0]) (N':=["_law_k","_law_letters","_law_d"]) (bL.of (osc:=aD (top 55)) (N:=["_law_d","_law_letters","_law_first","_law_size","_law_some"]) rfl rfl (by ext)) rfl (dG rfl T.range (aa (pv 3) aj)) (fun _ _ _ _ _=>(aK (i:=0) (show List.Nodup (["_law_k","_law_letters","_law_d"]:List Str) by ext) rfl (.inl rfl) (.inr rfl))) (fun _ _ _ _ _=>dF) (fun _ _ _ _ _=>(aZ (r:=HJ) qy (pv 1) (bO DP GP hr1 (aa (pv 2) (aa aA aj))) (fun _ _=>rfl)))) aj)))
 (aB
 (aJ (aZ cF (bM (aa (bh dz (pv 2) (pv 4)) (aa (bh dz (pv 4) (pv 2)) aj))) (bO DP GP hr1 (aa (pv 0) (aa aA aj))) (fun _ _=>rfl)))))))),?_⟩
 refine ⟨_,rfl,(by ext),fun q hq=>?_⟩
 refine ⟨p,dc,q,_,rfl,D.new hq,bF.of au,by simp,by simp,fun x H1 hx D1 b1=>?_⟩
 obtain ⟨z,rfl,hz,lz⟩:∃ z:Str,x=.str z/\z.length≤7/\Lc z:=by
  simp only [List.mem_cons,List.not_mem_nil,or_false] at hx
  rcases hx with rfl|rfl|rfl|rfl|rfl
  all_goals exact ⟨_,rfl,by ext,by unfold Lc;decide +kernel⟩
 refine ⟨_,rfl,_,rfl,z,rfl,Nat.le_trans hz (by decide),_,_,rfl,rfl,p,dc,_,rfl,D1,by lia,by lia,fun r H2 r0 r1 D2 b2=>?_⟩
 refine ⟨_,_,rfl,rfl,?_⟩
 refine ⟨rfl,_,rfl,_,rfl,by lia,by lia,?_⟩
 refine jY (n:=(1+r).toNat) (fun i ys σ' H'=>∃ (cs:List Str) (v:Option V),ys=cs.map V.str/\σ'=[v,some (.str "abcdefghijklmnopqrstuvwxyz"),some (.ref p)]/\Dr H' p dc/\bW p H2 H'/\∀ c∈cs,c.length=1/\Lc c) (Nat.le_trans (show (1+r).toNat≤8 by lia) (by decide)) ⟨[],none,rfl,rfl,D2,bW.refl,fun _ h=>nomatch h⟩ ?_ ?_
 ·rintro i ys σ' H' hi hys ⟨cs,v,rfl,rfl,D3,b3,hc⟩ N hN
  refine ⟨_,rfl,_,rfl,p,dc,_,rfl,D3,by decide,by decide,fun r' H4 r0' r1' D4 b4=>?_⟩
  obtain ⟨j,rfl⟩:=Int.eq_ofNat_of_zero_le r0'
  obtain ⟨c,hcj⟩:∃ c,("abcdefghijklmnopqrstuvwxyz" : Str).cps.toList[j]?=some c:=⟨_,List.getElem?_eq_getElem (by show j<26;lia)⟩
  have hat:qj ("abcdefghijklmnopqrstuvwxyz" : Str).cps.toList (j:Int)=some c:=aF hcj
  refine ⟨_,_,c,rfl,rfl,(by ext),hat,?_⟩
  refine hN _ _ _ (by simpa using hys) ⟨cs++[⟨#[c]⟩],_,by simp,rfl,D4,b3.trans b4,fun c' hc'=>?_⟩
  rcases List.mem_append.mp hc' with hc'|hc'
  ·exact hc c' hc'
  ·obtain rfl:c'=⟨#[c]⟩:=by simpa using hc'
   refine ⟨rfl,fun x hx=>?_⟩
   obtain rfl:x=c:=by simpa using hx
   exact uv hat
 ·rintro ys σ' H' hys ⟨cs,v,rfl,rfl,D3,b3,hc⟩
  rw [List.length_map] at hys
  refine ⟨by rw [List.length_map,hys];exact Nat.le_trans (show (1+r).toNat≤8 by lia) (by decide),fun q2 hq2=>?_⟩
  have hsum:(cs.map (·.length)).sum=cs.length:=by
   clear hys
   induction cs with
   |nil=>rfl
   |cons c t ih=>rw [List.map_cons,List.sum_cons,ih fun d hd=>hc d (List.mem_cons_of_mem _ hd),(hc c List.mem_cons_self).1,List.length_cons,Nat.add_comm]
  refine ⟨_,q2,cs,rfl,rfl,bF.of au,by rw [hsum,show (Str.ofString "").length=0 from rfl];lia,?_⟩
  rw [x_]
  have jl:(Str.join (Str.ofString "") cs).length=cs.length:=by
   rw [vg,nD _ rfl,List.length_flatten,List.map_map,← hsum]
   congr 1
  have jc:Lc (Str.join (Str.ofString "") cs):=fun x hx=>by
   rw [nD _ rfl] at hx
   obtain ⟨l,hl,hxl⟩:=List.mem_flatten.mp hx
   obtain ⟨c,hcm,rfl⟩:=List.mem_map.mp hl
   exact (hc c hcm).2 x hxl
  generalize Str.join (Str.ofString "") cs=js at jl jc
  have hj8:js.length+z.length≤8/\1≤js.length:=by lia
  refine ⟨_,rfl,_,rfl,_,_,rfl,rfl,Nat.le_trans (show z.length+js.length≤8 by lia) (by decide),_,rfl,_,rfl,_,_,rfl,rfl,Nat.le_trans (show js.length+z.length≤8 by lia) (by decide),(by ext),fun q3 hq3=>?_⟩
  have D4:Dr _ p dc:=(D3.new (o:=.lst (cs.map V.str)) hq2).new (o:=.lst [.str (z++js),.str (js++z)]) hq3
  refine ⟨_,rfl,p,dc,_,rfl,D4,by decide,by decide,fun r' H5 r0' r1' D5 b5=>?_⟩
  have nm1:Nm (z++js):=⟨by rw [Str.length_append];lia,by rw [Str.length_append];lia,lz.app jc⟩
  have nm2:Nm (js++z):=⟨by rw [Str.length_append];lia,by rw [Str.length_append];lia,jc.app lz⟩
  have bt:bW p H H5:=((((bW.new hq).trans b1).trans b2).trans b3).trans (((bW.new hq2).trans (bW.new hq3)).trans b5)
  have hq5:bF K H5 q3 [.str (z++js),.str (js++z)]:=D4.seq b5 (bF.of au)
  by_cases h0:r'=0
  ·subst h0
   exact ⟨_,_,_,_,rfl,rfl,hq5,rfl,k _ _ nm1 D5 bt⟩
  ·obtain rfl:r'=1:=by lia
   exact ⟨_,_,_,_,rfl,rfl,hq5,rfl,k _ _ nm2 D5 bt⟩
noncomputable def uX (K:PySem.W.Frag):Sp:=fun vs H Q _=>∃ (p dc:Addr) (m:Int),vs=[.ref p,.int m]/\Dr H p dc/\0≤m/\m≤60/\∀ (q:Addr) (ys:List Str) (H':Hp),H' q=some (.lst (ys.map V.str))->H q=none->(ys.length:Int)=m->(∀ y∈ys,Nm y)->ys.Nodup->Dr H' p dc->bW p H H'->Q (.ref q) H'
theorem wN:aU ["_law_d","_law_many","_law_found","_law_k","_law_word_here","_law_step"] ["_law_d","_law_many"] (aD (top 56)):=by ext
noncomputable def wd (t:Nat):Str:=⟨#[97+t % 8,113+t / 8 % 8]⟩
theorem KY (t:Nat):Nm (wd t):=⟨by show 1≤2;decide,by show 2≤8;decide,fun c hc=>by
 have:c=97+t % 8∨c=113+t / 8 % 8:=by simpa [wd] using hc
 lia⟩
theorem Fe (h:wd (k+s)=wd (k+s')) (h1:s<64) (h2:s'<64):s=s':=by
 have e:(#[97+(k+s) % 8,113+(k+s) / 8 % 8]:Array Nat)=#[97+(k+s') % 8,113+(k+s') / 8 % 8]:=congrArg Str.cps h
 have e1:97+(k+s) % 8=97+(k+s') % 8/\113+(k+s) / 8 % 8=113+(k+s') / 8 % 8:=by simpa using congrArg Array.toList e
 lia
theorem sub_len {α:Type} [DecidableEq α]:∀ {l ys:List α},l.Nodup->(∀ x∈l,x∈ys)->l.length≤ys.length
 |[],_,_,_=>Nat.zero_le _
 | a::l,ys,nd,hs=>by
   obtain ⟨n1,n2⟩:=List.nodup_cons.mp nd
   have ha:=hs a List.mem_cons_self
   have q:=sub_len (ys:=ys.erase a) n2 fun x hx=>(List.mem_erase_of_ne (by intro z;exact n1 (z ▸ hx))).mpr (hs x (List.mem_cons_of_mem _ hx))
   rw [List.length_erase_of_mem ha] at q
   have:=List.length_pos_of_mem ha
   rw [List.length_cons];lia
theorem yU {α β:Type} {f:α->β}:∀ {l:List α},l.Nodup->(∀ a∈l,∀ b∈l,f a=f b->a=b)->(l.map f).Nodup
 |[],_,_=>List.nodup_nil
 | a::l,nd,h=>by
   obtain ⟨n1,n2⟩:=List.nodup_cons.mp nd
   rw [List.map_cons]
   refine List.nodup_cons.mpr ⟨fun m=>?_,yU n2 fun x hx y hy=>h x (List.mem_cons_of_mem _ hx) y (List.mem_cons_of_mem _ hy)⟩
   obtain ⟨b,hb,e⟩:=List.mem_map.mp m
   exact n1 (h b (List.mem_cons_of_mem _ hb) a List.mem_cons_self e ▸ hb)
theorem Hr {ys:List Str} (hl:ys.length<64) (h:∀ s,s<64->wd (k+s)∈ys):False:=by
 have nd:((List.range 64).map fun s=>wd (k+s)).Nodup:=yU List.nodup_range fun a ha b hb e=>Fe e (List.mem_range.mp ha) (List.mem_range.mp hb)
 have q:=sub_len nd fun x hx=>by
  obtain ⟨s,hs,rfl⟩:=List.mem_map.mp hx
  exact h s (List.mem_range.mp hs)
 rw [List.length_map,List.length_range] at q
 lia
theorem yZ (F:fc K "_law_words" "_law_words" (top 56) f fd) (T:Txt K mg) (DP:cj K mg "_law_pick" (top 51) ["_law_d","_law_many"] fP fdP) (DO:cj K mg "_law_of" (top 52) ["_law_d","_law_things"] fO fdO)
 (DW:cj K mg "_law_word" (top 55) ["_law_d"] fW fdW):aQ P w K mg base bC 4 f fd ["_law_d","_law_many"] (uX K):=by
 have GW:aQ P w K mg base bC 3 fW fdW ["_law_d"] nO:=qD DW.F T DP DO
 refine F.ok wN (by ext) fun cdv A outer s H vs Q E hr h=>?_
 obtain ⟨p,dc,m,rfl,D,m0,m1,k⟩:=h
 refine ⟨_,(ak
 (bc (i:=2) wN.nd rfl (.inl rfl) (bM aj))
 (ak
 (dH PassesOwn.never rfl (dG rfl T.range (aa (pv 1) aj)) (aK (i:=3) wN.nd rfl (.inl rfl)) (ak
 (bc (i:=4) wN.nd rfl (.inl rfl) (bO DW GW hr (aa (pv 0) aj)))
 (ak
 (dH PassesOwn.never rfl (dG rfl T.range (aa aA aj)) (aK (i:=5) wN.nd rfl (.inl rfl)) (aB
 (a_ (aH dX (pv 4) (pv 2) rfl) (aB
 (bc (i:=4) wN.nd rfl (.inl rfl) (bh dz (aZ qy aM (bh iz (bh cH (pv 3) (pv 5)) aA) (fun _ _=>rfl)) (aZ qy aM (bh iz (bh uW (bh cH (pv 3) (pv 5)) aA) aA) (fun _ _=>rfl))))) aL)))
 (aB
 (cJ (h_ PySem.F.plainAttrs_list PySem.F.slot_list_append PySem.F.type_list_append eZ (pv 2) (aa (pv 4) aj)))))))
 (aB
 (aJ (pv 2))))),?_⟩
 refine ⟨(by ext),fun q hq=>?_⟩
 refine ⟨_,rfl,m,rfl,by lia,by lia,?_⟩
 refine fZ (n:=m.toNat) (fun i σ H1=>∃ (ys:List Str) (a b c:Option V),σ=[some (.ref p),some (.int m),some (.ref q),a,b,c]/\H1 q=some (.lst (ys.map V.str))/\ys.length=i/\(∀ y∈ys,Nm y)/\ys.Nodup/\Dr H1 p dc/\bW p H H1)
  ⟨[],none,none,none,rfl,au,rfl,(fun _ h=>by cases h),List.nodup_nil,D.new hq,bW.new hq⟩ ?_ ?_
 ·rintro i σ H1 hi ⟨ys,a,b,c,rfl,e1,hl,hy,nd,D1,b1⟩
  refine ⟨_,rfl,p,dc,rfl,D1,fun x H2 nx D2 b2=>?_⟩
  have e2:H2 q=some (.lst (ys.map V.str)):=b2 q _ e1 (D1.ne e1 (by intro kvs z;cases z))
  refine ⟨_,rfl,by decide,by decide,?_⟩
  refine fZ (n:=64) (fun j σ H3=>∃ (z:Str) (c:Option V),σ=[some (.ref p),some (.int m),some (.ref q),some (.int (0+(i:Int))),some (.str z),c]/\Nm z/\H3=H2/\(z∉ys∨∀ s,s<j->wd (i+s)∈ys)) ⟨x,_,rfl,nx,rfl,.inr fun s hs=>absurd hs (Nat.not_lt_zero _)⟩ ?_ ?_
  ·rintro j σ H3 hj ⟨z,c,rfl,nz,rfl,hz⟩
   refine ⟨_,rfl,_,rfl,q,_,rfl,.inl (bF.of e2),rfl,?_,_,rfl,?_⟩
   ·rw [List.all_eq_true]
    intro v hv
    obtain ⟨y,_,rfl⟩:=List.mem_map.mp hv
    rfl
   ·have hin:inV (.str z) (ys.map V.str)=true↔z∈ys:=by
     unfold inV
     rw [List.any_map,List.any_eq_true]
     constructor
     ·rintro ⟨y,hy1,hy2⟩
      have:y=z:=by simpa [rP] using hy2
      exact this ▸ hy1
     ·intro hz'
      exact ⟨z,hz',by simp [rP]⟩
    refine dC (fun hc=>?_) (fun hc=>⟨z,_,rfl,nz,rfl,.inl fun hz'=>hc (hin.mpr hz')⟩)
    have hz1:=hin.mp hc
    have hz2:∀ s,s<j->wd (i+s)∈ys:=hz.elim (fun n=>absurd hz1 n) id
    have u1:(0+(i:Int)+(0+(j:Int))) % 8=(((i+j) % 8:Nat):Int):=by lia
    have u2:(0+(i:Int)+(0+(j:Int))) / 8 % 8=(((i+j) / 8 % 8:Nat):Int):=by lia
    have h1:("abcdefgh" : Str).cps.toList[(i+j) % 8]?=some (97+(i+j) % 8):=by
     have:=Nat.mod_lt (i+j) (show 0<8 by decide)
     generalize (i+j) % 8=m8 at this
     revert m8;decide +kernel
    have h2:("qrstuvwx" : Str).cps.toList[(i+j) / 8 % 8]?=some (113+(i+j) / 8 % 8):=by
     have:=Nat.mod_lt ((i+j) / 8) (show 0<8 by decide)
     generalize (i+j) / 8 % 8=m8 at this
     revert m8;decide +kernel
    refine ⟨_,rfl,_,rfl,_,_,rfl,rfl,_,_,rfl,rfl,(by show (0:Int)<8;decide),_,_,_,rfl,rfl,(by ext),(by rw [u1];exact aF h1),?_⟩
    refine ⟨_,rfl,_,rfl,_,_,rfl,rfl,_,_,rfl,rfl,⟨by decide,by decide⟩,_,_,rfl,rfl,(by show (0:Int)<8;decide),_,_,_,rfl,rfl,(by ext),(by rw [u2];exact aF h2),?_⟩
    refine ⟨_,_,rfl,rfl,(show 1+1≤sizeLine by decide),wd (i+j),_,rfl,KY _,rfl,?_⟩
    by_cases hw:wd (i+j)∈ys
    ·refine .inr fun s hs=>?_
     by_cases hsj:s=j
     ·rw [hsj];exact hw
     ·exact hz2 s (by lia)
    ·exact .inl hw
  ·rintro σ H3 ⟨z,c,rfl,nz,rfl,hz⟩
   have znew:z∉ys:=hz.elim id fun h=>(Hr (by lia) h).elim
   refine ⟨_,rfl,.inl ⟨rfl,_,bF.of e2⟩,_,rfl,q,_,_,rfl,rfl,e2,by rw [List.length_map];exact gf (by lia),?_⟩
   have nqc:q≠dc:=by
    obtain ⟨xs,e⟩:=D.cell
    exact (aR e hq).symm
   have nqp:q≠p:=D2.ne e2 (by intro kvs z;cases z)
   refine ⟨ys++[z],_,_,_,rfl,by rw [au];simp,by simp [hl],fun y hy'=>(List.mem_append.mp hy').elim (hy y) (fun h=>by rw [List.mem_singleton.mp h];exact nz),uV nd znew,D2.put nqp nqc,fun b o e hb=>?_⟩
   rw [aX (aR e hq)]
   exact (b1.trans b2) b o e hb
 ·rintro σ H1 ⟨ys,a,b,c,rfl,e1,hl,hy,nd,D1,b1⟩
  exact ⟨_,rfl,k q ys H1 e1 hq (by lia) hy nd D1 b1⟩
end
noncomputable abbrev jM:=Str×Int×Int
structure lF (f:jM):Prop where
 nm:Nm f.1
 lo:-999999≤f.2.1
 le:f.2.1≤f.2.2
 hi:f.2.2≤999999
noncomputable def TK (H H':Hp):Prop:=∀ b xs,H b=some (.tup xs)->H' b=some (.tup xs)
theorem TK.trans (a:TK H H1) (b:TK H1 H2):TK H H2:=fun c xs h=>b c xs (a c xs h)
theorem TK.but (d:Dr H p dc) (b:bW p H H'):TK H H':=fun c xs h=>b c _ h (d.ne h (by intro kvs z;cases z))
theorem TK.lst (h:H q=some (.lst xs)):TK H (upd H q o):=fun c ys e=>by rw [aX (gw e h (by intro z;cases z))];exact e
theorem TK.new (h:H q=none):TK H (upd H q o):=fun c ys e=>by rw [aX (aR e h)];exact e
noncomputable def fj (H:Hp) (x:V) (f:jM):Prop:=∃ b,x=.ref b/\H b=some (.tup [.str f.1,.int f.2.1,.int f.2.2])
theorem fj.tk (h:fj H x f) (k:TK H H'):fj H' x f:=let ⟨b,e,q⟩:=h;⟨b,e,k _ _ q⟩
theorem eQ:∀ {xs:List V} {fs:List jM},Paired (fj H) xs fs->TK H H'->Paired (fj H') xs fs
 |_,_,.nil,_=>.nil
 |_,_,.cons r t,k=>.cons (r.tk k) (eQ t k)
noncomputable def vo:Sp:=fun vs H Q _=>∃ (p dc:Addr),vs=[.ref p]/\Dr H p dc/\∀ (z:Int) (H':Hp),-999999≤z->z≤999999->Dr H' p dc->bW p H H'->Q (.int z) H'
theorem Jf:aU ["_law_d","_law_near"] ["_law_d"] (aD (top 57)):=by ext
theorem Ab (F:fc K "_law_bound" "_law_bound" (top 57) f fd) (T:Txt K mg) (DP:cj K mg "_law_pick" (top 51) ["_law_d","_law_many"] fP fdP) (DO:cj K mg "_law_of" (top 52) ["_law_d","_law_things"] fO fdO) :
 aQ P w K mg base bC 3 f fd ["_law_d"] vo:=by
 have GP:aQ P w K mg base bC 1 fP fdP ["_law_d","_law_many"] d_:=dw DP.F T
 have GO:aQ P w K mg base bC 2 fO fdO ["_law_d","_law_things"] (oU K):=lJ DO.F T DP
 refine F.ok Jf (by ext) fun cdv A outer s H vs Q E hr h=>?_
 obtain ⟨p,dc,rfl,D,k⟩:=h
 have hr1:bR 1 _:=hr.mono (by decide)
 refine ⟨_,(ak
 (bc (i:=1) Jf.nd rfl (.inl rfl) (bM (aa aA (aa aA (aa aA (aa (bO DP GP hr1 (aa (pv 0) (aa aA aj))) (aa (bh dM (bO DP GP hr1 (aa (pv 0) (aa aA aj))) aA) aj)))))))
 (aB
 (aJ (bO DO GO hr (aa (pv 0) (aa (bh xZ (pv 1) (bM (aa aA (aa (jL iu aA) (aa (bh dM (bO DP GP hr1 (aa (pv 0) (aa aA aj))) aA) aj))))) aj)))))),?_⟩
 refine ⟨_,rfl,p,dc,_,rfl,D,by decide,by decide,fun r1 H1 a1 b1 D1 t1=>?_⟩
 refine ⟨_,rfl,p,dc,_,rfl,D1,by decide,by decide,fun r2 H2 a2 b2 D2 t2=>⟨_,_,rfl,rfl,(by ext),fun q1 h1=>?_⟩⟩
 have D2':=D2.new (o:=.lst [.int 0,.int 0,.int 5,.int r1,.int (r2-20)]) h1
 refine ⟨_,rfl,_,rfl,_,rfl,_,rfl,p,dc,_,rfl,D2',by decide,by decide,fun r3 H3 a3 b3 D3 t3=>⟨_,_,rfl,rfl,(by ext),fun q2 h2=>?_⟩⟩
 have e1:H3 q1=some (.lst [.int 0,.int 0,.int 5,.int r1,.int (r2-20)]):=t3 q1 _ au (D2'.ne au (by intro kvs z;cases z))
 refine ⟨q1,q2,_,_,rfl,rfl,(aC.new h2) _ _ e1,au,(show 5+3≤sizeLine by decide),fun q3 h3=>?_⟩
 have D4:=(D3.new (o:=.lst [.int 999999,.int (-999999),.int (r3-999999)]) h2)
 refine ⟨p,dc,q3,_,rfl,D4.new h3,bF.of au,by simp,by simp,fun x H5 hx D5 t5=>?_⟩
 obtain ⟨z,rfl,z0,z1⟩:∃ z:Int,x=.int z/\-999999≤z/\z≤999999:=by
  simp only [List.cons_append,List.nil_append,List.mem_cons,List.not_mem_nil,or_false] at hx
  rcases hx with rfl|rfl|rfl|rfl|rfl|rfl|rfl|rfl
  all_goals exact ⟨_,rfl,by lia,by lia⟩
 exact k z H5 z0 z1 D5 (((t1.trans t2).trans (bW.new h1)).trans (((t3.trans (bW.new h2)).trans (bW.new h3)).trans t5))
noncomputable def rY (K:PySem.W.Frag):Sp:=fun vs H Q _=>∃ (p dc:Addr) (m:Int),vs=[.ref p,.int m]/\Dr H p dc/\0≤m/\m≤60/\∀ (a:Addr) (xs:List V) (fs:List jM) (H':Hp),H' a=some (.tup xs)->Paired (fj H') xs fs->(fs.length:Int)=m->(∀ f∈fs,lF f)->(fs.map (·.1)).Nodup->H a=none->Dr H' p dc->bW p H H'->Q (.ref a) H'
theorem wV:aU ["_law_d","_law_many","_law_names","_law_found","_law_title","_law_low","_law_high"] ["_law_d","_law_many"] (aD (top 58)):=by ext
theorem wH (F:fc K "_law_fields" "_law_fields" (top 58) f fd) (T:Txt K mg) (DP:cj K mg "_law_pick" (top 51) ["_law_d","_law_many"] fP fdP) (DO:cj K mg "_law_of" (top 52) ["_law_d","_law_things"] fO fdO)
 (DW:cj K mg "_law_word" (top 55) ["_law_d"] fW fdW) (DWs:cj K mg "_law_words" (top 56) ["_law_d","_law_many"] fWs fdWs) (DB:cj K mg "_law_bound" (top 57) ["_law_d"] fB fdB):aQ P w K mg base bC 5 f fd ["_law_d","_law_many"] (rY K):=by
 have GP:aQ P w K mg base bC 1 fP fdP ["_law_d","_law_many"] d_:=dw DP.F T
 have GO:aQ P w K mg base bC 2 fO fdO ["_law_d","_law_things"] (oU K):=lJ DO.F T DP
 have GWs:aQ P w K mg base bC 4 fWs fdWs ["_law_d","_law_many"] (uX K):=yZ DWs.F T DP DO DW
 have GB:aQ P w K mg base bC 3 fB fdB ["_law_d"] vo:=Ab DB.F T DP DO
 refine F.ok wV (by ext) fun cdv A outer s H vs Q E hr h=>?_
 obtain ⟨p,dc,m,rfl,D,m0,m1,k⟩:=h
 have hr1:bR 1 _:=hr.mono (by decide)
 have hr2:bR 2 _:=hr.mono (by decide)
 have hr3:bR 3 _:=hr.mono (by decide)
 refine ⟨_,(ak
 (bc (i:=2) wV.nd rfl (.inl rfl) (bO DWs GWs hr (aa (pv 0) (aa (pv 1) aj))))
 (ak
 (bc (i:=3) wV.nd rfl (.inl rfl) (bM aj))
 (ak
 (dH PassesOwn.never rfl (iQ (pv 2)) (aK (i:=4) wV.nd rfl (.inl rfl)) (ak
 (bc (i:=5) wV.nd rfl (.inl rfl) (bO DB GB hr3 (aa (pv 0) aj)))
 (ak
 (bc (i:=6) wV.nd rfl (.inl rfl) (aG (pJ rfl) (by rfl) T.min z7 (aa aA (aa (bh cH (pv 5) (bO DO GO hr2 (aa (pv 0) (aa (bM (aa aA (aa aA (aa aA (aa aA (aa (bO DP GP hr1 (aa (pv 0) (aa aA aj))) aj)))))) aj)))) aj))))
 (aB
 (cJ (h_ PySem.F.plainAttrs_list PySem.F.slot_list_append PySem.F.type_list_append eZ (pv 3) (aa (bu (aa (pv 4) (aa (pv 5) (aa (pv 6) aj)))) aj)))))))
 (aB
 (aJ (g8 iw (by rfl) T.tuple fu (aa (pv 3) aj))))))),?_⟩
 refine ⟨_,rfl,_,rfl,p,dc,m,rfl,D,m0,m1,fun q ys H1 e1 hq hl hy nd D1 t1=>?_⟩
 refine ⟨(by ext),fun q2 h2=>?_⟩
 have D1':=D1.new (o:=.lst []) h2
 have e1':(upd H1 q2 (.lst [])) q=some (.lst (ys.map V.str)):=(aC.new h2) _ _ e1
 have nq:q2≠q:=(aR e1 h2).symm
 have hq2:H q2=none:=by
  cases e:H q2 with
  |none=>rfl
  |some o=>rw [t1 q2 o e (D1.neN h2).symm] at h2;cases h2
 have nq2c:q2≠dc:=by
  obtain ⟨xs,e⟩:=D1.cell
  exact (aR e h2).symm
 refine ⟨_,rfl,q,rfl,⟨_,bF.of e1'⟩,rC (K:=K) (a:=q) (xs:=ys.map V.str) (fun i σ H2=>∃ (xs:List V) (fs:List jM) (a b c:Option V),σ=[some (.ref p),some (.int m),some (.ref q),some (.ref q2),a,b,c]/\H2 q=some (.lst (ys.map V.str))/\H2 q2=some (.lst xs)/\Paired (fj H2) xs fs/\fs.map (·.1)=ys.take i/\(∀ f∈fs,lF f)/\Dr H2 p dc/\bW p H H2)
  ⟨[],[],none,none,none,rfl,e1',au,.nil,by simp,(fun _ h=>by cases h),D1',t1.trans (bW.new h2)⟩ (fun i σ H2 _ ⟨_,_,_,_,_,_,e,_⟩=>bF.of e) ?_ ?_⟩
 ·rintro i y σ H2 hi ⟨xs,fs,a,b,c,rfl,g1,g2,pf,hm,hf,D2,t2⟩
  rw [List.getElem?_map] at hi
  obtain ⟨n,hn,rfl⟩:=Option.map_eq_some_iff.mp hi
  have hil:i<ys.length:=(List.getElem?_eq_some_iff.mp hn).1
  refine ⟨_,rfl,p,dc,rfl,D2,fun lo H3 l0 l1 D3 t3=>?_⟩
  have np:∀ {b:Addr} {ws:List V} {H':Hp},Dr H' p dc->H' b=some (.lst ws)->b≠p:=fun d e=>d.ne e (by intro kvs z;cases z)
  refine ⟨_,rfl,_,rfl,_,rfl,p,dc,_,rfl,D3,by decide,by decide,fun r H4 r0 r1 D4 t4=>⟨(by ext),fun q3 h3=>?_⟩⟩
  have D4':=D4.new (o:=.lst [.int 0,.int 1,.int 3,.int 9,.int r]) h3
  refine ⟨p,dc,q3,_,rfl,D4',bF.of au,by simp,by simp,fun x H5 hx D5 t5=>?_⟩
  obtain ⟨z,rfl,z0⟩:∃ z:Int,x=.int z/\0≤z:=by
   simp only [List.mem_cons,List.not_mem_nil,or_false] at hx
   rcases hx with rfl|rfl|rfl|rfl|rfl
   all_goals exact ⟨_,rfl,by lia⟩
  refine ⟨_,_,rfl,rfl,_,_,rfl,?_⟩
  have t35:bW p H2 H5:=((t3.trans t4).trans (bW.new h3)).trans t5
  have g1':H5 q=some (.lst (ys.map V.str)):=t35 q _ g1 (np D2 g1)
  have g2':H5 q2=some (.lst xs):=t35 q2 _ g2 (np D2 g2)
  have k5:TK H2 H5:=TK.but D2 t35
  refine ⟨_,rfl,.inl ⟨rfl,_,bF.of g2'⟩,_,rfl,_,rfl,_,rfl,(by ext),fun q4 h4=>?_⟩
  have g2'':∀ o,(upd H5 q4 o) q2=some (.lst xs):=fun o=>(aC.new h4) _ _ g2'
  have hlen:fs.length=i:=by
   have:=congrArg List.length hm
   rw [List.length_map,List.length_take] at this
   lia
  have pl:=Paired.length pf
  refine ⟨q2,xs,_,rfl,rfl,g2'' _,gf (by lia),?_⟩
  generalize hhi:(if lo+z<999999 then lo+z else 999999)=hi'
  have h1:lo≤hi'/\hi'≤999999:=by rw [← hhi];split <;> lia
  refine ⟨xs++[.ref q4],fs++[(n,lo,hi')],_,_,_,rfl,?_,au,?_,?_,?_,?_,?_⟩
  ·rw [aX nq.symm];exact (aC.new h4) _ _ g1'
  ·refine Paired.snoc (eQ pf (k5.trans ((TK.new h4).trans (TK.lst (g2'' _))))) ⟨q4,rfl,?_⟩
   exact (TK.lst (g2'' _)) _ _ au
  ·rw [List.map_append,hm,List.take_add_one,hn];rfl
  ·intro f hf'
   rcases List.mem_append.mp hf' with hf'|hf'
   ·exact hf f hf'
   ·obtain rfl:f=(n,lo,hi'):=by simpa using hf'
    exact ⟨hy n (List.mem_of_getElem? hn),l0,h1.1,h1.2⟩
  ·exact (D5.new h4).put (np (D5.new (o:=.tup [.str n,.int lo,.int hi']) h4) (g2'' _)) nq2c
  ·intro b o e hb
   rw [aX (aR e hq2)]
   exact (aC.new h4) _ _ ((t2.trans t35) b o e hb)
 ·rintro σ H2 ⟨xs,fs,a,b,c,rfl,g1,g2,pf,hm,hf,D2,t2⟩
  rw [List.length_map,List.take_length] at hm
  refine ⟨_,rfl,q2,xs,rfl,.inl ⟨bF.of g2,fun l hn=>?_⟩⟩
  refine k l xs fs _ au (eQ pf (TK.new hn)) ?_ hf (by rw [hm];exact nd) ?_ (D2.new hn) (t2.trans (bW.new hn))
  ·rw [← List.length_map (f:=(·.1)),hm];exact hl
  ·cases e:H l with
   |none=>rfl
   |some o=>rw [t2 l o e (D2.neN hn).symm] at hn;cases hn
theorem uni:∀ c<128,Unicode.isAlpha c=(decide (65≤c/\c≤90) || decide (97≤c/\c≤122))/\Unicode.isLower c=decide (97≤c/\c≤122)/\Unicode.isUpper c=decide (65≤c/\c≤90)/\Unicode.isTitle c=false:=by ext
noncomputable def nameB (x:Str):Bool:=decide (x.length≤8) && (x.cps.all (·<128) && ((x.length > 0 && x.cps.all Unicode.isAlpha) && (x.cps.any Unicode.isLower && !x.cps.any fun c=>Unicode.isUpper c || Unicode.isTitle c)))
theorem cQ (x:Str):nameB x=true↔Nm x:=by
 unfold nameB
 simp only [Bool.and_eq_true,decide_eq_true_eq,Bool.not_eq_true',← Array.all_toList,← Array.any_toList,List.all_eq_true,List.any_eq_true,List.any_eq_false]
 constructor
 ·rintro ⟨h8,ha,⟨h0,hal⟩,⟨c0,hc0,hl0⟩,hu⟩
  refine ⟨h0,h8,fun c hc=>?_⟩
  have c1:c<128:=ha c hc
  obtain ⟨u1,u2,u3,u4⟩:=uni c c1
  have a1:=hal c hc
  have a2:=hu c hc
  rw [u1] at a1
  rw [u3,u4] at a2
  simp at a1 a2
  lia
 ·rintro ⟨h0,h8,lc⟩
  have cc:∀ c∈x.cps.toList,c<128/\97≤c/\c≤122:=fun c hc=>⟨by have:=lc c hc;lia,lc c hc⟩
  refine ⟨h8,fun c hc=>(cc c hc).1,⟨h0,fun c hc=>?_⟩,?_,fun c hc=>?_⟩
  ·rw [(uni c (cc c hc).1).1];simp [(cc c hc).2]
  ·rw [vg] at h0
   obtain ⟨c,hc⟩:=List.exists_mem_of_length_pos (show 0<x.cps.toList.length by lia)
   exact ⟨c,hc,by rw [(uni c (cc c hc).1).2.1];simp [(cc c hc).2]⟩
  ·rw [(uni c (cc c hc).1).2.2.1,(uni c (cc c hc).1).2.2.2]
   have:=(cc c hc).2
   simp;lia
structure qL (mg:Str->Option Value):Prop where
 ml:∃ t,mg "MOST_LETTERS" = some (.int 8 t)
 mf:∃ t,mg "MOST_FIELDS" = some (.int 4 t)
 lim:∃ t,mg "LIMIT" = some (.int 999999 t)
noncomputable def o8:Sp:=fun vs H Q _=>∃ x:Str,vs=[.str x]/\x.length≤sizeLine/\Q (.bl (nameB x)) H
theorem Nv:aU ["text"] ["text"] (aD (top 14)):=by ext
theorem pG (F:fc K "is_name" "is_name" (top 14) f fd) (T:Txt K mg) (TK:qL mg):aQ P w K mg base bC 1 f fd ["text"] o8:=by
 refine F.ok Nv (by ext) fun cdv A outer s H vs Q E hr h=>?_
 obtain ⟨x,rfl,hl,k⟩:=h
 obtain ⟨t8,m8⟩:=TK.ml
 refine ⟨_,(aB
 (aJ (cA (bN gO (aG iR (by rfl) T.len bH (aa (pv 0) aj)) (cB (v:=.int 8) rfl m8 ⟨_,rfl⟩) (aN _)) (cA (ud PySem.F.plainAttrs_str PySem.F.slot_str_isascii PySem.F.type_str_isascii uI (pv 0)) (cA (ud PySem.F.plainAttrs_str PySem.F.slot_str_isalpha PySem.F.type_str_isalpha tH (pv 0)) (dI (ud PySem.F.plainAttrs_str PySem.F.slot_str_islower PySem.F.type_str_islower sO (pv 0)))))))),?_⟩
 refine ⟨_,rfl,x,rfl,hl,_,_,rfl,rfl,_,rfl,?_⟩
 unfold nameB at k
 by_cases h8:x.length≤8
 ·refine b_ (by simp;lia) ⟨_,rfl,rfl,x,rfl,rfl,_,rfl,?_⟩
  rw [decide_eq_true h8,Bool.true_and] at k
  cases h1:x.cps.all (·<128) with
  |false=>rw [h1] at k;exact bJ h1 k
  | true=>
    rw [h1,Bool.true_and] at k
    refine b_ h1 ⟨_,rfl,rfl,x,rfl,rfl,_,rfl,?_⟩
    cases h2:(x.length > 0 && x.cps.all Unicode.isAlpha) with
    |false=>rw [h2] at k;exact bJ h2 k
    | true=>
      rw [h2,Bool.true_and] at k
      exact b_ h2 ⟨_,rfl,rfl,x,rfl,rfl,k⟩
 ·refine bJ (by simp;lia) ?_
  rw [decide_eq_false h8,Bool.false_and] at k
  exact k
noncomputable def jZ:Sp:=fun vs H Q _=>∃ x:Str,vs=[.str x]/\Nm x/\Q .non H
theorem Nj:aU ["text"] ["text"] (aD (top 15)):=by ext
theorem mq (F:fc K "need_name" "need_name" (top 15) f fd) (T:Txt K mg) (TK:qL mg) (DI:cj K mg "is_name" (top 14) ["text"] fI fdI):aQ P w K mg base bC 2 f fd ["text"] jZ:=by
 have GI:aQ P w K mg base bC 1 fI fdI ["text"] o8:=pG DI.F T TK
 refine F.ok Nj (by ext) fun cdv A outer s H vs Q E hr h=>?_
 obtain ⟨x,rfl,nm,k⟩:=h
 refine ⟨_,(aB (a_ (cN (bU (bO DI GI hr (aa (pv 0) aj)))) (aB d9) aL)),?_⟩
 refine ⟨_,rfl,x,rfl,Nat.le_trans nm.hi (by decide),_,rfl,?_⟩
 rw [(cQ x).mpr nm]
 exact bJ rfl k
noncomputable def lH:Sp:=fun vs H Q _=>∃ (a:Addr) (xs:List V) (fs:List jM),vs=[.ref a]/\H a=some (.tup xs)/\Paired (fj H) xs fs/\fs.length≤60/\(∀ f∈fs,lF f)/\(fs.map (·.1)).Nodup/\∀ H',aC H H'->Q .non H'
theorem f9 {α β:Type} {F:α->β->Prop}:∀ {xs:List α} {ys:List β} {i:Nat} {x:α},Paired F xs ys->xs[i]?=some x->∃ y,ys[i]?=some y/\F x y
 |_,_,_,_,.nil,e=>by simp at e
 |_,_,0,_,.cons r _,e=>by simp at e;subst e;exact ⟨_,rfl,r⟩
 | _,_,i+1,x,.cons _ t,e=>by
   obtain ⟨y,h1,h2⟩:=f9 (i:=i) (x:=x) t (by simpa using e)
   exact ⟨y,by simpa using h1,h2⟩
theorem yt:aU ["fields","seen","name","low","high"] ["fields"] (aD (top 16)):=by ext
theorem oX (F:fc K "need_fields" "need_fields" (top 16) f fd) (T:Txt K mg) (TK':qL mg) (DI:cj K mg "is_name" (top 14) ["text"] fI fdI) (DN:cj K mg "need_name" (top 15) ["text"] fN fdN):aQ P w K mg base bC 3 f fd ["fields"] lH:=by
 have GN:aQ P w K mg base bC 2 fN fdN ["text"] jZ:=mq DN.F T TK' DI
 refine F.ok yt (by ext) fun cdv A outer s H vs Q E hr h=>?_
 obtain ⟨a,xs,fs,rfl,ha,pf,hl,hf,nd,k⟩:=h
 obtain ⟨tl,ml⟩:=TK'.lim
 refine ⟨_,(ak
 (bc (i:=1) yt.nd rfl (.inl rfl) (bM aj))
 (aB
 (dH PassesOwn.never rfl (iB (pv 0)) (cD rfl (aP (aK (i:=2) yt.nd rfl (.inl rfl)) (aP (aK (i:=3) yt.nd rfl (.inl rfl)) (aP (aK (i:=4) yt.nd rfl (.inl rfl)) bY))))
 (ak (cJ (bO DN GN hr (aa (pv 2) aj)))
 (ak (a_ (aH dX (pv 2) (pv 1) rfl) (aB d9) aL)
 (ak (a_ (cN (wY gO gO gO (jL iu (cB (v:=.int 999999) rfl ml ⟨_,rfl⟩)) (pv 3) (pv 4) (cB (v:=.int 999999) rfl ml ⟨_,rfl⟩))) (aB d9) aL)
 (aB (cJ (h_ PySem.F.plainAttrs_list PySem.F.slot_list_append PySem.F.type_list_append eZ (pv 1) (aa (pv 2) aj)))))))))),?_⟩
 refine ⟨(by ext),fun q hq=>?_⟩
 have pl:=Paired.length pf
 have ha':∀ {H':Hp},aC H H'->H' a=some (.tup xs):=fun e=>e _ _ ha
 refine ⟨_,rfl,a,rfl,⟨_,bD.of (ha' (aC.new hq))⟩,mW (K:=K) (a:=a) (xs:=xs) (fun i σ H1=>∃ (b c d:Option V),σ=[some (.ref a),some (.ref q),b,c,d]/\H1 q=some (.lst (((fs.map (·.1)).take i).map V.str))/\aC H H1)
  ⟨none,none,none,rfl,by rw [au];simp,aC.new hq⟩ (fun i σ H1 _ ⟨_,_,_,_,_,e⟩=>bD.of (ha' e)) ?_ ?_⟩
 ·rintro i x σ H1 hi ⟨b,c,d,rfl,e1,s1⟩
  obtain ⟨⟨n,lo,hi'⟩,hfi,b',rfl,hb⟩:=f9 pf hi
  have fo:=hf _ (List.mem_of_getElem? hfi)
  have hil:i<fs.length:=(List.getElem?_eq_some_iff.mp hfi).1
  refine ⟨b',_,rfl,bD.of (s1 _ _ hb),rfl,_,_,rfl,_,_,rfl,_,_,rfl,rfl,?_⟩
  refine ⟨_,rfl,n,rfl,fo.nm,?_⟩
  have hnot:n∉(fs.map (·.1)).take i:=by
   intro hm
   have h1:(fs.map (·.1))[i]?=some n:=by rw [List.getElem?_map,hfi];rfl
   obtain ⟨j,hj,e⟩:=List.getElem_of_mem hm
   rw [List.length_take] at hj
   rw [List.getElem_take] at e
   have h2:(fs.map (·.1))[j]?=some n:=by rw [List.getElem?_eq_getElem (by lia),e]
   have:=oE nd h1 h2
   lia
  refine ⟨_,rfl,_,rfl,q,_,rfl,.inl (bF.of e1),rfl,?_,_,rfl,?_⟩
  ·rw [List.all_eq_true]
   intro v hv
   obtain ⟨y,_,rfl⟩:=List.mem_map.mp hv
   rfl
  refine bJ ?_ ?_
  ·show inV (.str n) _=false
   unfold inV
   rw [List.any_map,List.any_eq_false]
   intro y hy hy2
   have:y=n:=by simpa [rP] using hy2
   exact hnot (this ▸ hy)
  have f1:=fo.lo
  have f2:=fo.le
  have f3:=fo.hi
  refine ⟨_,rfl,_,rfl,_,_,rfl,rfl,_,rfl,b_ (by simpa using f1) ?_⟩
  refine ⟨_,rfl,_,_,rfl,rfl,_,rfl,b_ (by simpa using f2) ?_⟩
  refine ⟨_,_,rfl,rfl,_,rfl,bJ (by simpa using f3) ?_⟩
  have lt:((fs.map (·.1)).take i).length≤60:=by rw [List.length_take,List.length_map];lia
  refine ⟨_,rfl,.inl ⟨rfl,_,bF.of e1⟩,_,rfl,q,_,_,rfl,rfl,e1,by rw [List.length_map];exact gf (by lia),?_⟩
  refine ⟨_,_,_,rfl,?_,fun c o e=>by rw [aX (aR e hq)];exact s1 c o e⟩
  rw [au,List.take_add_one,List.getElem?_map,hfi]
  simp
 ·rintro σ H1 ⟨b,c,d,rfl,e1,s1⟩
  exact k H1 s1
structure xF (K:PySem.W.Frag) (x qual:Str) (st:Stmt) (dV:Value) (f:Addr) (fd:FuncData):Prop where
 ex:∃ (oc:Value) (od:Option Addr) (kV doc pm:Value) (an:Option Addr) (cdv ct:Value) (osl:Array (Option Value)),
  fd=PySem.W.fnOf x qual (fK st) (dU st) (aD st) dV kV doc pm an cdv ct/\K.lookup f=some ⟨oc,od,.func fd,osl⟩/\PySem.W.codeIn K cdv qual=true
 kp:PySem.W.keepIn K (.ref f)=true
section
variable {P:Program} {w:World} {K:PySem.W.Frag} {mg:Str->Option Value} {base:Heap}
theorem xF.ok (F:xF K x qual st dV f fd) (S:aU N ps (aD st)) (len:∀ vs H Q E,sp vs H Q E->vs.length=ps.length)
 (hbody:∀ (cdv:Value) (A:Around) (outer:List Env) (s:Shared) (H:Hp) (vs:List V) (Q:VK) (E:XK),bR k (A.deeper (PyProof.Rows.envOfC qual (aD st) s.heap.objs.size f cdv))->sp vs H Q E->
  ∃ t,uT (uG bC P w K mg base N qual (aD st) f cdv A outer s H E).nox (dU st) t/\t { nx:=fun _ H'=>Q .non H',rt:=Q } (L2.start N vs) H):aQ P w K mg base bC (k+1) f fd ps sp:=by
 obtain ⟨oc,od,kV,doc,pm,an,cdv,ct,osl,rfl,lk,hcd⟩:=F.ex
 refine C_ lk hcd S len fun A outer s H vs Q E hr hsp=>?_
 obtain ⟨t,h,q⟩:=hbody cdv A outer s H vs Q E hr hsp
 exact ⟨t,h.nox,q⟩
theorem xF.binds (F:xF K x qual st (.ref T) f fd) (hT:K.lookup T=some oT) (hd:oT.data=.seq items n)
 (h:∀ (kV doc pm:Value) (an:Option Addr) (cdv ct:Value) (s:Shared) (us:List Value),s.heap.get? T=some oT->(us++ds).length=ps.length->BindsTo s (PySem.W.fnOf x qual (fK st) (dU st) (aD st) (.ref T) kV doc pm an cdv ct) ⟨us,[]⟩ (ps.zip (us++ds))):Binds K fd ps ds:=by
 obtain ⟨oc,od,kV,doc,pm,an,cdv,ct,osl,rfl,lk,hcd⟩:=F.ex
 exact fun s us X hl=>h kV doc pm an cdv ct s us (X _ _ hT) hl
noncomputable abbrev qW:Stmt:=inClass (top 18) 0
theorem yp (hd:oT.data=.seq #[d0] n) (kV doc pm:Value) (an:Option Addr) (cdv ct:Value) (s:Shared) (us:List Value) (hT:s.heap.get? T=some oT) (h:(us++[]).length=(["self","name","fields"]:List Str).length) :
 BindsTo s (PySem.W.fnOf "__init__" "Kind.__init__" (fK qW) (dU qW) (aD qW) (.ref T) kV doc pm an cdv ct) ⟨us,[]⟩ ((["self","name","fields"]:List Str).zip (us++[])):=by
 rw [List.append_nil] at h ⊢
 match us,h with
 |[a,b,c],_=>exact BindsTo.of_defaults rfl hT hd rfl rfl
structure KCls (K:PySem.W.Frag) (mg:Str->Option Value) (C:Addr):Prop where
 cl:As K C
 nN:jf K C "name"
 nF:jf K C "fields"
 mg:mg "Kind" = some (.ref C)
theorem nf:¬ (("name" : Str) = "fields"):=by ext
noncomputable def kf (n:Str) (a:Addr):List (Str×V):=iT "fields" (.ref a) (iT "name" (.str n) [])
theorem Bt (n:Str) (a:Addr):(kf n a).lookup ("name" : Str)=some (.str n):=by
 unfold kf
 rw [dR,if_neg nf,dR,if_pos rfl]
theorem m6 (n:Str) (a:Addr):(kf n a).lookup ("fields" : Str)=some (.ref a):=by
 unfold kf
 rw [dR,if_pos rfl]
theorem Dv (n:Str) (a:Addr) {m:Str} (h1:¬ m = "fields") (h2:¬ m = "name"):(kf n a).lookup m=none:=by
 unfold kf
 rw [dR,if_neg h1,dR,if_neg h2]
 rfl
structure gY (C:Addr) (H:Hp) (o:Addr) (n:Str) (a:Addr) (fs:List jM):Prop where
 ob:∃ dx,H o=some (.ins C dx (kf n a))
 tp:∃ xs,H a=some (.tup xs)/\Paired (fj H) xs fs
noncomputable def zO (C:Addr):Sp:=fun vs H Q _=>∃ (o dx a:Addr) (n:Str) (xs:List V) (fs:List jM),vs=[.ref o,.str n,.ref a]/\H o=some (.ins C dx [])/\Nm n/\H a=some (.tup xs)/\Paired (fj H) xs fs/\fs.length≤4/\(∀ f∈fs,lF f)/\(fs.map (·.1)).Nodup/\
 ∀ H',gY C H' o n a fs->(∀ b u,H b=some u->b≠o->H' b=some u)->Q .non H'
theorem OD:aU ["self","name","fields"] ["self","name","fields"] (aD qW):=by ext
theorem Bq (F:xF K "__init__" "Kind.__init__" qW dV f fd) (T:Txt K mg) (TK':qL mg) (KC:KCls K mg C) (DI:cj K mg "is_name" (top 14) ["text"] fI fdI) (DN:cj K mg "need_name" (top 15) ["text"] fN fdN)
 (DF:cj K mg "need_fields" (top 16) ["fields"] fF fdF):aQ P w K mg base bC 4 f fd ["self","name","fields"] (zO C):=by
 have GN:aQ P w K mg base bC 2 fN fdN ["text"] jZ:=mq DN.F T TK' DI
 have GF:aQ P w K mg base bC 3 fF fdF ["fields"] lH:=oX DF.F T TK' DI DN
 refine F.ok OD (by ext) fun cdv A outer s H vs Q E hr h=>?_
 obtain ⟨o,dx,a,n,xs,fs,rfl,ho,hn,ha,pf,hl,hf,nd,k⟩:=h
 obtain ⟨tf,mf⟩:=TK'.mf
 have hr2:bR 2 _:=hr.mono (by decide)
 have pl:=Paired.length pf
 refine ⟨_,(ak
 (cJ (bO DN GN hr2 (aa (pv 1) aj)))
 (ak
 (a_ (aH nW (aG aO (by rfl) T.len bH (aa (pv 2) aj)) (cB (v:=.int 4) rfl mf ⟨_,rfl⟩) (aN _)) (aB d9) aL)
 (ak
 (cJ (bO DF GF hr (aa (pv 2) aj)))
 (ak
 (zZ (pv 0) (pv 1) rfl)
 (aB
 (zZ (pv 0) (g8 iw (by rfl) T.tuple fu (aa (pv 2) aj)) rfl)))))),?_⟩
 refine ⟨_,rfl,n,rfl,hn,?_⟩
 refine ⟨_,rfl,a,xs,rfl,.inr (bD.of ha),_,_,rfl,rfl,_,rfl,bJ (by simp;lia) ?_⟩
 refine ⟨_,rfl,a,xs,fs,rfl,ha,pf,by lia,hf,nd,fun H1 s1=>?_⟩
 refine ⟨_,rfl,_,rfl,o,C,dx,[],rfl,s1 _ _ ho,KC.cl,KC.nN,(show 0<1000 by decide),?_⟩
 have nao:a≠o:=gw ha ho (by intro z;cases z)
 have ha1:∀ u,(upd H1 o u) a=some (.tup xs):=fun u=>by rw [aX nao];exact s1 _ _ ha
 refine ⟨_,rfl,a,xs,rfl,.inr ⟨bD.of (ha1 _),?_⟩⟩
 refine ⟨_,rfl,o,C,dx,_,rfl,au,KC.cl,KC.nF,(show 1<1000 by decide),?_⟩
 have keep:∀ b u,H b=some u->b≠o->(upd (upd H1 o (.ins C dx (iT "name" (.str n) []))) o (.ins C dx (kf n a))) b=some u:=fun b u e hb=>by
  rw [aX hb,aX hb];exact s1 _ _ e
 refine k _ ⟨⟨dx,au⟩,xs,keep a _ ha nao,eQ pf fun b ys e=>keep b _ e (gw e ho (by intro z;cases z))⟩ keep
end
theorem gY.same (h:gY C H o n a fs) (e:aC H H'):gY C H' o n a fs:=by
 obtain ⟨⟨dx,h1⟩,xs,h2,h3⟩:=h
 exact ⟨⟨dx,e _ _ h1⟩,xs,e _ _ h2,eQ h3 fun b ys z=>e _ _ z⟩
noncomputable def Oz (K:PySem.W.Frag):TG:=HD K 3 (pB (bG 0) (pB (bG 1) (pB (bG 2) HB)))
theorem uY (h1:-999999≤i) (h2:i≤999999):(Str.ofString (toString i)).length≤8/\i.natAbs.log2<1920:=by
 constructor
 ·have:=int_text_length_le10 (a:=i) (k:=6) (by decide) (by lia)
  have e:(Str.ofString (toString i)).length=(toString i).length:=ofString_length _
  lia
 ·have h3:i.natAbs<2 ^ 20:=by lia
  by_cases h0:i.natAbs=0
  ·rw [h0];decide
  ·exact Nat.lt_trans ((Nat.log2_lt h0).mpr h3) (by decide)
theorem yF (h:Nm n):(reprText n).length≤82:=by
 have h1:=StrLaws.reprText_len n (fun c hc=>Nat.lt_of_le_of_lt (h.lc c hc).2 (by decide))
 have:=h.hi
 lia
noncomputable abbrev kM (j:Nat):Stmt:=inClass (top 18) j
noncomputable def qN (fs:List jM) (x:Str):V:=if x∈fs.map (·.1) then .int ((fs.map (·.1)).idxOf x:Nat) else .non
noncomputable def vq (C:Addr):Sp:=fun vs H Q _=>∃ (o a:Addr) (n x:Str) (fs:List jM),vs=[.ref o,.str x]/\gY C H o n a fs/\fs.length≤4/\∀ H',aC H H'->Q (qN fs x) H'
theorem yE:aU ["self","field","at","name","low","high"] ["self","field"] (aD (kM 3)):=by ext
theorem yu (F:fc K "place_of" "Kind.place_of" (kM 3) f fd) (T:Txt K mg) (hen:mg "enumerate" = none) (KC:KCls K mg C):aQ P w K mg base bC 1 f fd ["self","field"] (vq C):=by
 refine F.ok yE (by ext) fun cdv A outer s H vs Q E hr h=>?_
 obtain ⟨o,a,n,x,fs,rfl,⟨⟨dx,ho⟩,xs,ha,pf⟩,hl,k⟩:=h
 have pl:=Paired.length pf
 refine ⟨_,(ak
 (dH PassesOwn.never rfl (Al rfl hen gP (aa (qF (pv 0) rfl) aj)) (cD rfl (aP (aK (i:=2) yE.nd rfl (.inl rfl)) (aP (cD rfl (aP (aK (i:=3) yE.nd rfl (.inl rfl)) (aP (aK (i:=4) yE.nd rfl (.inl rfl)) (aP (aK (i:=5) yE.nd rfl (.inl rfl)) bY)))) bY))) (aB
 (a_ (aH bz (pv 3) (pv 1) (aN _)) (aB
 (aJ (pv 2))) aL)))
 (aB
 (aJ qi))),?_⟩
 refine ⟨_,rfl,o,C,dx,_,_,rfl,ho,KC.cl,KC.nF,m6 n a,a,rfl,⟨xs,bD.of ha⟩,xJ (K:=K) (a:=a) (xs:=xs) (fun i σ H1=>(∃ u1 u2 u3 u4,σ=[some (.ref o),some (.str x),u1,u2,u3,u4])/\aC H H1/\x∉(fs.map (·.1)).take i) ⟨⟨none,none,none,none,rfl⟩,aC.refl _,by simp⟩ (fun i σ H1 _ z=>bD.of (z.2.1 _ _ ha)) ?_ ?_⟩
 ·rintro i y σ H1 p hy ⟨⟨u1,u2,u3,u4,rfl⟩,s1,hn⟩ hp
  obtain ⟨⟨m,lo,hi⟩,hfi,b,rfl,hb⟩:=f9 pf hy
  have s2:aC H (upd H1 p (.tup [.int i,.ref b])):=s1.trans (aC.new hp)
  refine ⟨p,_,rfl,bD.of au,rfl,_,_,rfl,_,_,rfl,b,_,rfl,bD.of (s2 _ _ hb),rfl,_,_,rfl,_,_,rfl,_,_,rfl,rfl,rfl,?_⟩
  refine ⟨_,rfl,_,rfl,rfl,_,rfl,?_⟩
  have hmi:(fs.map (·.1))[i]?=some m:=by rw [List.getElem?_map,hfi];rfl
  by_cases e:m=x
  ·subst e
   refine b_ (by simp) ⟨_,rfl,?_⟩
   have hmem:m∈fs.map (·.1):=List.mem_of_getElem? hmi
   have hix:(fs.map (·.1)).idxOf m=i:=by
    have hil:=(List.getElem?_eq_some_iff.mp hmi).1
    have hgt:¬ (fs.map (·.1)).idxOf m<i:=fun z=>hn (by
     rw [List.mem_iff_getElem?]
     refine ⟨(fs.map (·.1)).idxOf m,?_⟩
     rw [List.getElem?_take,if_pos z,List.getElem?_eq_getElem (by lia),List.getElem_idxOf])
    have hlt:¬ i<(fs.map (·.1)).idxOf m:=fun z=>by
     have:=List.not_of_lt_findIdx (p:=(· == m)) (xs:=fs.map (·.1)) z
     rw [(List.getElem?_eq_some_iff.mp hmi).2] at this
     simp at this
    lia
   have:=k _ s2
   unfold qN at this
   rw [if_pos hmem,hix] at this
   exact this
  ·refine bJ (by simp [e]) ⟨⟨_,_,_,_,rfl⟩,s2,?_⟩
   rw [List.take_add_one,hmi]
   simp only [Option.toList_some,List.mem_append,List.mem_singleton,not_or]
   exact ⟨hn,fun z=>e z.symm⟩
 ·rintro σ H1 ⟨⟨u1,u2,u3,u4,rfl⟩,s1,hn⟩
  have:=k _ s1
  unfold qN at this
  rw [List.take_of_length_le (by rw [List.length_map];lia)] at hn
  rw [if_neg hn] at this
  exact this
end Cm
namespace Cm
open PySem L2 PySem.W
theorem e_ (h:aC H H1) (n:H1 e=none):H e=none:=by
 cases z:H e with
 |none=>rfl
 |some o=>have:=h _ _ z;rw [n] at this;cases this
noncomputable abbrev Bf:Int:=1000000000000000000000000000000
noncomputable def ie (x:Str):Prop:=x.cps.all (·<128)=true
noncomputable def xT:Sp:=fun vs H Q _=>∃ (p dc:Addr),vs=[.ref p]/\Dr H p dc/\∀ (z:Int) (H':Hp),-Bf≤z->z≤Bf->Dr H' p dc->bW p H H'->Q (.int z) H'
theorem DK:aU ["_law_d","_law_number_here"] ["_law_d"] (aD (top 53)):=by ext
theorem zE (F:fc K "_law_far" "_law_far" (top 53) f fd) (T:Txt K mg) (DP:cj K mg "_law_pick" (top 51) ["_law_d","_law_many"] fP fdP):aQ P w K mg base bC 2 f fd ["_law_d"] xT:=by
 have GP:aQ P w K mg base bC 1 fP fdP ["_law_d","_law_many"] d_:=dw DP.F T
 refine F.ok DK (by ext) fun cdv A outer s H vs Q E hr h=>?_
 obtain ⟨p,dc,rfl,D,k⟩:=h
 refine ⟨_,(ak
 (bc (i:=1) DK.nd rfl (.inl rfl) (bh cH (bh t_ aA aA) (bO DP GP hr (aa (pv 0) (aa (bh t_ aA aA) aj)))))
 (aB
 (aJ (aZ cF (bM (aa (pv 1) (aa (bh dM aA (pv 1)) aj))) (bO DP GP hr (aa (pv 0) (aa aA aj))) (fun _ _=>rfl))))),?_⟩
 have c1:HF 10 9:=⟨by decide,by decide,by decide⟩
 have c2:HF 10 29:=⟨by decide,by decide,by decide⟩
 have p1:(10:Int) ^ (9:Int).toNat=1000000000:=by decide
 have p2:(10:Int) ^ (29:Int).toNat=100000000000000000000000000000:=by ext
 refine ⟨_,_,rfl,rfl,c1,_,rfl,_,_,rfl,rfl,c2,p,dc,_,rfl,D,by rw [p2];decide,by rw [p2];decide,fun r H1 a1 b1 D1 t1=>⟨_,_,rfl,rfl,?_⟩⟩
 rw [p2] at b1
 rw [p1]
 have z1:1000000000+r≤Bf:=by simp only [Bf];lia
 refine ⟨_,rfl,_,rfl,_,_,rfl,rfl,(by ext),fun q1 h1=>?_⟩
 have D2:=D1.new (o:=.lst [.int (1000000000+r),.int (0-(1000000000+r))]) h1
 refine ⟨_,rfl,p,dc,_,rfl,D2,by decide,by decide,fun r2 H2 a2 b2 D3 t2=>?_⟩
 have e1:bF K H2 q1 [.int (1000000000+r),.int (0-(1000000000+r))]:=D2.seq t2 (bF.of au)
 have bt:bW p H H2:=t1.trans ((bW.new h1).trans t2)
 by_cases h0:r2=0
 ·subst h0
  exact ⟨_,_,_,_,rfl,rfl,e1,rfl,k _ _ (by simp only [Bf] at *;lia) z1 D3 bt⟩
 ·obtain rfl:r2=1:=by lia
  exact ⟨_,_,_,_,rfl,rfl,e1,rfl,k _ _ (by simp only [Bf] at *;lia) (by simp only [Bf] at *;lia) D3 bt⟩
theorem Qw:∀ c<128,(!(Builtin.Str.occurrences ("abcdefghijklmnopqrstuvwxyz" : Str) ⟨#[c]⟩ 0 ("abcdefghijklmnopqrstuvwxyz" : Str).length 1).isEmpty)=decide (97≤c/\c≤122):=by ext
noncomputable def yW:Sp:=fun vs H Q _=>∃ x:Str,vs=[.str x]/\x.length≤50000/\ie x/\∀ H',aC H H'->Q (.bl (nameB x)) H'
theorem Nr:aU ["_law_text"] ["_law_text"] (aD (top 60)):=by ext
theorem oW (x:Str):nameB x=(decide (1≤x.length) && (decide (x.length≤8) && x.cps.toList.all fun c=>decide (97≤c/\c≤122))):=by
 have h:nameB x=true↔(decide (1≤x.length) && (decide (x.length≤8) && x.cps.toList.all fun c=>decide (97≤c/\c≤122)))=true:=by
  rw [cQ]
  simp only [Bool.and_eq_true,decide_eq_true_eq,List.all_eq_true]
  exact ⟨fun h=>⟨h.lo,h.hi,fun c hc=>h.lc c hc⟩,fun h=>⟨h.1,h.2.1,fun c hc=>h.2.2 c hc⟩⟩
 cases e1:nameB x with
 |true=>exact (h.mp e1).symm
 | false=>
   cases e2:(decide (1≤x.length) && (decide (x.length≤8) && x.cps.toList.all fun c=>decide (97≤c/\c≤122))) with
   |false=>rfl
   |true=>rw [h.mpr e2] at e1;cases e1
theorem BK (F:fc K "_law_is_name" "_law_is_name" (top 60) f fd) (T:Txt K mg):aQ P w K mg base bC 1 f fd ["_law_text"] yW:=by
 refine F.ok Nr (by ext) fun cdv A outer s H vs Q E hr h=>?_
 obtain ⟨x,rfl,hl,ha,k⟩:=h
 have big:50000≤sizeLine:=by decide
 refine ⟨_,(aB
 (aJ (cA (j7 gO gO aA (aG iR (by rfl) T.len bH (aa (pv 0) aj)) aA) (dI (aG (jy rfl) (by rfl) T.all qC (aa (gR (own:=["_law_sign"]) (js:=[]) (N':=["_law_sign"]) (bL.of (osc:=aD (top 60)) (N:=["_law_text"]) rfl rfl (by ext)) rfl (GK (pv 0)) (fun _ _ _ _ _=>(aK (i:=0) (show List.Nodup (["_law_sign"]:List Str) by ext) rfl (.inl rfl) (.inr rfl))) (fun _ _ _ _ _=>dF) (fun _ _ _ _ _=>(bN wu (pv 0) aM rfl))) aj)))))),?_⟩
 rw [oW] at k
 refine ⟨_,rfl,x,rfl,by lia,_,_,rfl,rfl,_,rfl,?_⟩
 by_cases h1:1≤x.length
 ·rw [decide_eq_true h1,Bool.true_and] at k
  refine b_ (by simp;lia) ⟨_,_,rfl,rfl,_,rfl,?_⟩
  by_cases h8:x.length≤8
  ·rw [decide_eq_true h8,Bool.true_and] at k
   refine b_ (by simp;lia) ⟨_,rfl,x,rfl,ha,?_⟩
   have hz:x.cps.size=x.length:=rfl
   refine zV (x:=x) (fun i ys σ' H'=>∃ v,σ'=[v]/\H'=H/\ys=((x.cps.toList.take i).map fun c=>V.bl (decide (97≤c/\c≤122)))) (by lia) ⟨none,rfl,rfl,by simp⟩ ?_ ?_
   ·rintro i c ys σ' H' hc hy ⟨v,rfl,rfl,rfl⟩ N hN
    have hc':x.cps.toList[i]?=some c:=by rw [Array.getElem?_toList];exact hc
    have c1:c<128:=by
     have h':=ha
     unfold ie at h'
     rw [← Array.all_toList,List.all_eq_true] at h'
     simpa using h' c (List.mem_of_getElem? hc')
    refine ⟨_,rfl,_,_,rfl,rfl,?_⟩
    rw [Qw c c1]
    refine hN _ _ _ (by simpa using hy) ⟨_,rfl,rfl,?_⟩
    rw [List.take_add_one,hc']
    simp
   ·rintro ys σ' H' hy ⟨v,rfl,rfl,rfl⟩
    rw [List.take_of_length_le (by simp)]
    refine ⟨by rw [List.length_map];have:x.cps.toList.length=x.length:=rfl;lia,fun q hq=>?_⟩
    refine ⟨q,x.cps.toList.map fun c=>decide (97≤c/\c≤122),rfl,?_,?_⟩
    ·have:=bF.of (K:=K) (H:=upd H' q (.lst (x.cps.toList.map fun c=>V.bl (decide (97≤c/\c≤122))))) (a:=q) (xs:=x.cps.toList.map fun c=>V.bl (decide (97≤c/\c≤122))) au
     rw [List.map_map]
     exact this
    ·dsimp only
     rw [List.all_map]
     exact k _ (aC.new hq)
  ·rw [decide_eq_false h8,Bool.false_and] at k
   exact bJ (by simp;lia) (k H fun _ _ z=>z)
 ·rw [decide_eq_false h1,Bool.false_and] at k
  exact bJ (by simp;lia) ⟨_,rfl,bJ rfl (k H fun _ _ z=>z)⟩
theorem jt (a:ie x) (b:ie y):ie (x++y):=by
 unfold ie at *
 rw [← Array.all_toList,List.all_eq_true] at *
 intro c hc
 have:(x++y).cps.toList=x.cps.toList++y.cps.toList:=by
  show (x.cps++y.cps).toList=_
  simp
 rw [this] at hc
 rcases List.mem_append.mp hc with h|h
 ·exact a c h
 ·exact b c h
theorem iH (a:ie x) (l u:Option Int):ie (Txt.slice x l u):=by
 unfold ie at *
 rw [← Array.all_toList,List.all_eq_true] at *
 exact fun c hc=>a c (wW x l u c hc)
noncomputable def Eo:Sp:=fun vs H Q _=>∃ (p dc:Addr) (x:Str),vs=[.ref p,.str x]/\Dr H p dc/\x.length≤500/\ie x/\∀ (y:Str) (H':Hp),ie y->y.length≤x.length+8->Dr H' p dc->bW p H H'->Q (.str y) H'
theorem KD:aU ["_law_d","_law_text","_law_odd"] ["_law_d","_law_text"] (aD (top 61)):=by ext
theorem Hx (F:fc K "_law_odd_name" "_law_odd_name" (top 61) f fd) (T:Txt K mg) (DP:cj K mg "_law_pick" (top 51) ["_law_d","_law_many"] fP fdP) (DO:cj K mg "_law_of" (top 52) ["_law_d","_law_things"] fO fdO) :
 aQ P w K mg base bC 3 f fd ["_law_d","_law_text"] Eo:=by
 have GO:aQ P w K mg base bC 2 fO fdO ["_law_d","_law_things"] (oU K):=lJ DO.F T DP
 refine F.ok KD (by ext) fun cdv A outer s H vs Q E hr h=>?_
 obtain ⟨p,dc,x,rfl,D,hl,ha,k⟩:=h
 refine ⟨_,(ak
 (bc (i:=2) KD.nd rfl (.inl rfl) (bM (aa aM (aa (bh dz (pv 1) aM) (aa (bh dz (cG o6 (pv 1) cW (cR aA)) aM) (aa (bh dz (cG o6 (pv 1) cW (cR aA)) aM) (aa (bh dz (cG o6 (pv 1) cW (cR aA)) aM) (aa (bh dz (cG o6 (pv 1) cW (cR aA)) aM) (aa (bh dz aM (cG o6 (pv 1) cW (cR aA))) aj)))))))))
 (aB
 (aJ (bO DO GO hr (aa (pv 0) (aa (pv 2) aj)))))),?_⟩
 have big:1000≤sizeLine:=by decide
 have l1:(("abcdefgh" : Str)).length=8:=by ext
 have sl:∀ j:Int,(Txt.slice x none (some j)).length≤x.length:=fun j=>Txt.slice_le x none (some j)
 have m:∀ y z:Str,y.length≤x.length->z.length=1->y.length+z.length≤sizeLine:=fun y z h1 h2=>by lia
 have m':∀ y z:Str,y.length≤x.length->z.length=1->z.length+y.length≤sizeLine:=fun y z h1 h2=>by lia
 refine ⟨_,rfl,_,_,rfl,rfl,by lia,?_⟩
 refine ⟨_,rfl,_,rfl,x,_,rfl,rfl,rfl,by lia,_,_,rfl,rfl,m _ ("A" : Str) (sl _) (by ext),?_⟩
 refine ⟨_,rfl,_,rfl,x,_,rfl,rfl,rfl,by lia,_,_,rfl,rfl,m _ (" " : Str) (sl _) (by ext),?_⟩
 refine ⟨_,rfl,_,rfl,x,_,rfl,rfl,rfl,by lia,_,_,rfl,rfl,m _ ("1" : Str) (sl _) (by ext),?_⟩
 refine ⟨_,rfl,_,rfl,x,_,rfl,rfl,rfl,by lia,_,_,rfl,rfl,m _ ("_" : Str) (sl _) (by ext),?_⟩
 refine ⟨_,rfl,_,rfl,x,_,rfl,rfl,rfl,by lia,_,_,rfl,rfl,m' _ ("{" : Str) (sl _) (by ext),?_⟩
 refine ⟨(by ext),fun q hq=>?_⟩
 refine ⟨_,rfl,_,rfl,p,dc,q,_,rfl,D.new hq,bF.of au,by simp,by simp,fun v H1 hv D1 b1=>?_⟩
 have ap:∀ y z:Str,(y++z).length=y.length+z.length:=fun y z=>Str.length_append y z
 have one:∀ z:Str,z.length=1->∀ j:Int,(Txt.slice x none (some j)++z).length≤x.length+8/\(z++Txt.slice x none (some j)).length≤x.length+8:=fun z hz j=>by
  have:=sl j
  rw [ap,ap]
  lia
 obtain ⟨y,rfl,y1,y2⟩:∃ y:Str,v=.str y/\ie y/\y.length≤x.length+8:=by
  simp only [List.mem_cons,List.not_mem_nil,or_false] at hv
  rcases hv with rfl|rfl|rfl|rfl|rfl|rfl|rfl
  ·exact ⟨_,rfl,by unfold ie;decide +kernel,Nat.zero_le _⟩
  ·exact ⟨_,rfl,jt ha (by unfold ie;decide +kernel),by rw [ap];lia⟩
  ·exact ⟨_,rfl,jt (iH ha _ _) (by unfold ie;decide +kernel),(one _ (by ext) _).1⟩
  ·exact ⟨_,rfl,jt (iH ha _ _) (by unfold ie;decide +kernel),(one _ (by ext) _).1⟩
  ·exact ⟨_,rfl,jt (iH ha _ _) (by unfold ie;decide +kernel),(one _ (by ext) _).1⟩
  ·exact ⟨_,rfl,jt (iH ha _ _) (by unfold ie;decide +kernel),(one _ (by ext) _).1⟩
  ·exact ⟨_,rfl,jt (by unfold ie;decide +kernel) (iH ha _ _),(one _ (by ext) _).2⟩
 exact k y H1 y1 y2 D1 ((bW.new hq).trans b1)
noncomputable abbrev qX:Int:=Bf+2
inductive TD:PyData->Prop
 |str {x:Str}:ie x->x.length≤40->TD (.str x)
 |int {i:Int}:-qX≤i->i≤qX->TD (.int i)
 |nil:TD (.tuple [])
 |node {f:Str} {r:List PyData}:ie f->f.length≤40->r.length≤4->(∀ d∈r,TD d)->TD (.tuple (.str f::r))
noncomputable def jh:PyData->Bool
 |.str x=>nameB x
 |_=>false
noncomputable def mQ:PyData->Bool
 |.int i=>decide (-999999≤i) && decide (i≤999999)
 |_=>false
noncomputable def fU (f:Str) (r:List PyData):Bool:=
 if f = "all" then r.isEmpty else if f = "is" then (match r with|[x]=>jh x|_=>false)
 else decide (f = "less"∨f = "same") && (match r with|[x,y]=>jh x && mQ y|_=>false)
noncomputable def arity (f:Str):Option Nat:=if f = "not" then some 1 else if f = "and" then some 2 else if f = "or" then some 2 else none
noncomputable def cnt:Nat->PyData->Nat
 |0,_=>0
 |n+1,.tuple (.str f::r)=>if fU f r=true then 1 else if arity f=some r.length then (if 0∈r.map (cnt n) then 0 else 1+(r.map (cnt n)).sum) else 0
 |_+1,_=>0
mutual
noncomputable def bQ:PyData->Bool
 |.tuple (.str f::r)=>if f = "and"∨f = "or" then decide (r.length=2) && shapes r else if f = "not" then decide (r.length=1) && shapes r else fU f r
 |_=>false
noncomputable def shapes:List PyData->Bool
 |[]=>true
 |d::r=>bQ d && shapes r
end
mutual
noncomputable def bT:PyData->Nat
 |.tuple (.str f::r)=>if (arity f).isSome=true then 1+dh r else 1
 |_=>1
noncomputable def dh:List PyData->Nat
 |[]=>0
 |d::r=>max (bT d) (dh r)
end
mutual
noncomputable def cC:PyData->Nat
 |.tuple (.str f::r)=>if (arity f).isSome=true then 1+eX r else 1
 |_=>1
noncomputable def eX:List PyData->Nat
 |[]=>0
 |d::r=>cC d+eX r
end
noncomputable def fH (d:PyData):Bool:=bQ d && (decide (bT d≤5) && decide (cC d≤15))
theorem o_:∀ d,1≤cC d:=by
 intro d
 unfold cC
 split
 ·split <;> lia
 ·lia
theorem eF:∀ d,1≤bT d:=by
 intro d
 unfold bT
 split
 ·split <;> lia
 ·lia
theorem uo (h:fU f r=true):arity f=none:=by
 unfold fU at h
 unfold arity
 by_cases h1:f = "all"
 ·subst h1;decide +kernel
 ·rw [if_neg h1] at h
  by_cases h2:f = "is"
  ·subst h2;decide +kernel
  ·rw [if_neg h2,Bool.and_eq_true,decide_eq_true_eq] at h
   rcases h.1 with rfl|rfl <;> decide +kernel
theorem n_ (k:Nat) (r:List PyData):decide (some k=some r.length)=decide (r.length=k):=by
 simp only [Option.some.injEq,decide_eq_decide]
 exact ⟨fun h=>h.symm,fun h=>h.symm⟩
theorem gj:bQ (.tuple (.str f::r))=if arity f=none then fU f r else decide (arity f=some r.length) && shapes r:=by
 unfold bQ
 by_cases h1:f = "and"
 ·subst h1
  rw [show arity "and" = some 2 from by ext,if_pos (.inl rfl),if_neg (show ¬ (some 2=(none:Option Nat)) from nofun),n_]
 ·by_cases h2:f = "or"
  ·subst h2
   rw [show arity "or" = some 2 from by ext,if_pos (.inr rfl),if_neg (show ¬ (some 2=(none:Option Nat)) from nofun),n_]
  ·rw [if_neg (by simp [h1,h2])]
   by_cases h3:f = "not"
   ·subst h3
    rw [show arity "not" = some 1 from by ext,if_pos rfl,if_neg (show ¬ (some 1=(none:Option Nat)) from nofun),n_]
   ·have ha:arity f=none:=by unfold arity;rw [if_neg h3,if_neg h1,if_neg h2]
    rw [ha,if_neg h3,if_pos rfl]
theorem LQ (ih:∀ d,cnt n d=if bQ d=true/\bT d≤n then cC d else 0):∀ r:List PyData,(if 0∈r.map (cnt n) then 0 else 1+(r.map (cnt n)).sum)=if shapes r=true/\dh r≤n then 1+eX r else 0
 |[]=>by simp [shapes,dh,eX]
 | d::r=>by
   have h:=LQ ih r
   have hp:=o_ d
   rw [List.map_cons,List.sum_cons]
   have es:shapes (d::r)=(bQ d && shapes r):=rfl
   have ed:dh (d::r)=max (bT d) (dh r):=rfl
   have ep:eX (d::r)=cC d+eX r:=rfl
   by_cases hd:bQ d=true/\bT d≤n
   ·have e:cnt n d=cC d:=by rw [ih,if_pos hd]
    by_cases hr:shapes r=true/\dh r≤n
    ·rw [if_pos hr] at h
     have h0:¬ 0∈r.map (cnt n):=fun z=>by rw [if_pos z] at h;lia
     rw [if_neg h0] at h
     rw [if_neg (by rw [List.mem_cons,not_or,e];exact ⟨by lia,h0⟩),if_pos ⟨by rw [es,hd.1,hr.1];rfl,by rw [ed];lia⟩,e,ep]
     lia
    ·rw [if_neg hr] at h
     have h0:0∈r.map (cnt n):=by
      by_cases z:0∈r.map (cnt n)
      ·exact z
      ·rw [if_neg z] at h;lia
     rw [if_pos (List.mem_cons_of_mem _ h0),if_neg]
     rintro ⟨z1,z2⟩
     rw [es,Bool.and_eq_true] at z1
     rw [ed] at z2
     exact hr ⟨z1.2,by lia⟩
   ·have e:cnt n d=0:=by rw [ih,if_neg hd]
    rw [if_pos (by rw [e];exact List.mem_cons_self ..),if_neg]
    rintro ⟨z1,z2⟩
    rw [es,Bool.and_eq_true] at z1
    rw [ed] at z2
    exact hd ⟨z1.1,by lia⟩
theorem uh:∀ (n:Nat) (d:PyData),cnt n d=if bQ d=true/\bT d≤n then cC d else 0
 | 0,d=>by
   have:=eF d
   rw [if_neg (by lia)]
   rfl
 | n+1,d=>by
   have ih:=uh n
   by_cases hd:∃ f r,d=.tuple (.str f::r)
   ·obtain ⟨f,r,rfl⟩:=hd
    have e1:cnt (n+1) (.tuple (.str f::r))=if fU f r=true then 1 else if arity f=some r.length then (if 0∈r.map (cnt n) then 0 else 1+(r.map (cnt n)).sum) else 0:=rfl
    have e2:bT (.tuple (.str f::r))=if (arity f).isSome=true then 1+dh r else 1:=rfl
    have e3:cC (.tuple (.str f::r))=if (arity f).isSome=true then 1+eX r else 1:=rfl
    have e4:=@gj f r
    by_cases hl:fU f r=true
    ·have ha:=uo hl
     rw [ha] at e2 e3 e4
     rw [e1,if_pos hl,if_pos ⟨by rw [e4,if_pos rfl];exact hl,by rw [e2];simp⟩,e3]
     rfl
    ·rw [e1,if_neg hl]
     by_cases ha:arity f=none
     ·rw [if_neg (by rw [ha];nofun),if_neg]
      rintro ⟨q,_⟩
      rw [e4,if_pos ha] at q
      exact hl q
     ·obtain ⟨k,hk⟩:=Option.ne_none_iff_exists'.mp ha
      rw [hk] at e2 e3 e4 ⊢
      rw [if_neg (show ¬ (some k=(none:Option Nat)) from nofun)] at e4
      by_cases hkr:k=r.length
      ·subst hkr
       rw [if_pos rfl,LQ ih r]
       by_cases z:shapes r=true/\dh r≤n
       ·rw [if_pos z,if_pos ⟨by rw [e4,z.1];simp,by rw [e2];simp;lia⟩,e3]
        rfl
       ·rw [if_neg z,if_neg]
        rintro ⟨q1,q2⟩
        rw [e4] at q1
        rw [e2] at q2
        simp at q1 q2
        exact z ⟨q1,by lia⟩
      ·rw [if_neg (by simpa using hkr),if_neg]
       rintro ⟨q,_⟩
       rw [e4] at q
       simp [hkr] at q
   ·have e1:cnt (n+1) d=0:=by
     unfold cnt
     split
     ·lia
     ·exact absurd ⟨_,_,rfl⟩ hd
     ·rfl
    have e2:bQ d=false:=by
     unfold bQ
     split
     ·exact absurd ⟨_,_,rfl⟩ hd
     ·rfl
    rw [e1,e2,if_neg (by simp)]
theorem CT (d:PyData):(decide (1≤cnt 5 d) && decide (cnt 5 d≤15))=fH d:=by
 have hp:=o_ d
 rw [uh]
 unfold fH
 by_cases h:bQ d=true/\bT d≤5
 ·rw [if_pos h,h.1,decide_eq_true h.2]
  simp [hp]
 ·rw [if_neg h]
  have:(bQ d && decide (bT d≤5))=false:=by
   rw [← Bool.not_eq_true,Bool.and_eq_true,decide_eq_true_eq]
   exact h
  rw [← Bool.and_assoc,this]
  rfl
mutual
noncomputable def sE:PyData->List PyData
 |.tuple (.str f::r)=>if (arity f).isSome=true then kJ r else [.tuple (.str f::r)]
 |d=>[d]
noncomputable def kJ:List PyData->List PyData
 |[]=>[]
 |d::r=>sE d++kJ r
end
section
variable {P:Program} {w:World} {K:PySem.W.Frag} {mg:Str->Option Value} {base:Heap}
noncomputable def Ju (K:Frag):Sp:=fun vs H Q _=>∃ (x:V) (d:PyData),vs=[x]/\Rep K H x d/\TD d/\Q (.bl (jh d)) H
theorem Nh:aU ["thing"] ["thing"] (aD (top 24)):=by ext
theorem J9 (F:fc K "is_word" "is_word" (top 24) f fd) (T:Txt K mg) (TK:qL mg) (DN:cj K mg "is_name" (top 14) ["text"] fN fdN):aQ P w K mg base bC 2 f fd ["thing"] (Ju K):=by
 have GN:aQ P w K mg base bC 1 fN fdN ["text"] o8:=pG DN.F T TK
 refine F.ok Nh (by ext) fun cdv A outer s H vs Q E hr h=>?_
 obtain ⟨x,d,rfl,rd,td,k⟩:=h
 refine ⟨_,(aB (aJ (cA (aG bK (by rfl) T.isinstance aV (aa (pv 0) (aa (cP rfl T.str nM) aj))) (dI (bO DN GN hr (aa (pv 0) aj)))))),?_⟩
 cases td with
 | @str y a l=>
   cases rd
   exact ⟨_,rfl,_,_,_,_,rfl,.str y,rfl,_,rfl,b_ rfl ⟨_,rfl,y,rfl,Nat.le_trans l (by decide),k⟩⟩
 | @int i a b=>
   cases rd
   exact ⟨_,rfl,_,_,_,_,rfl,.int i,rfl,_,rfl,bJ rfl k⟩
 |nil=>exact ⟨_,rfl,_,_,_,_,rfl,rd,rfl,_,rfl,bJ rfl k⟩
 |node a l n z=>exact ⟨_,rfl,_,_,_,_,rfl,rd,rfl,_,rfl,bJ rfl k⟩
noncomputable def J7 (K:Frag):Sp:=fun vs H Q _=>∃ (x:V) (d:PyData),vs=[x]/\Rep K H x d/\TD d/\Q (.bl (mQ d)) H
theorem NQ:aU ["thing"] ["thing"] (aD (top 25)):=by ext
theorem Kz (F:fc K "is_number" "is_number" (top 25) f fd) (T:Txt K mg) (TK:qL mg):aQ P w K mg base bC 1 f fd ["thing"] (J7 K):=by
 refine F.ok NQ (by ext) fun cdv A outer s H vs Q E hr h=>?_
 obtain ⟨x,d,rfl,rd,td,k⟩:=h
 obtain ⟨tl,ml⟩:=TK.lim
 refine ⟨_,(aB (aJ (cA (aG bK (by rfl) T.isinstance aV (aa (pv 0) (aa (cP rfl T.int jX) aj))) (cA (yK (aG bK (by rfl) T.isinstance aV (aa (pv 0) (aa (cP rfl T.bool gk) aj)))) (dI (j7 gO gO (jL iu (cB (v:=.int 999999) rfl ml ⟨_,rfl⟩)) (pv 0) (cB (v:=.int 999999) rfl ml ⟨_,rfl⟩))))))),?_⟩
 cases td with
 | @int i a b=>
   cases rd
   refine ⟨_,rfl,_,_,_,_,rfl,.int i,rfl,_,rfl,b_ rfl ⟨_,rfl,_,_,_,_,rfl,.int i,rfl,_,rfl,_,rfl,b_ rfl ?_⟩⟩
   exact mH.chain (mH.neg mH.con) (mH.var rfl) mH.con Ar.i0 Ar.i0 _ k
 | @str y a l=>
   cases rd
   exact ⟨_,rfl,_,_,_,_,rfl,.str y,rfl,_,rfl,bJ rfl k⟩
 |nil=>exact ⟨_,rfl,_,_,_,_,rfl,rd,rfl,_,rfl,bJ rfl k⟩
 |node a l n z=>exact ⟨_,rfl,_,_,_,_,rfl,rd,rfl,_,rfl,bJ rfl k⟩
noncomputable abbrev dW:List (Str×PyData):=[("not",.int 1),("and",.int 2),("or",.int 2)]
noncomputable abbrev dS:List (Str×PyData):=[("less",.str "<"),("same",.str "=")]
structure Ha (K:Frag) (mg:Str->Option Value) (aW aS:Addr):Prop where
 mw:mg "WITHIN" = some (.ref aW)
 ms:mg "SIGN_OF" = some (.ref aS)
 kw:vP K aW dW
 ks:vP K aS dS
theorem K3 (f:Str):l_ dW f=(arity f).map fun n=>V.int (n:Nat):=by
 unfold l_ arity
 show ((if _ then _ else if _ then _ else if _ then _ else none:Option PyData)).map Mp=_
 by_cases h1:f = "not"
 ·subst h1;rfl
 ·by_cases h2:f = "and"
  ·subst h2;rfl
  ·by_cases h3:f = "or"
   ·subst h3;rfl
   ·simp [h1,h2,h3]
theorem Jb (f:Str):l_ dS f=if f = "less" then some (.str "<") else if f = "same" then some (.str "=") else none:=by
 unfold l_
 show ((if _ then _ else if _ then _ else none:Option PyData)).map Mp=_
 by_cases h1:f = "less"
 ·subst h1;rfl
 ·by_cases h2:f = "same"
  ·subst h2;rfl
  ·simp [h1,h2]
noncomputable def Hc (K:Frag):Sp:=fun vs H Q _=>∃ (a:Addr) (f:Str) (r:List PyData),vs=[.ref a]/\Rep K H (.ref a) (.tuple (.str f::r))/\TD (.tuple (.str f::r))/\Q (.bl (fU f r)) H
theorem JM:aU ["test","form"] ["test"] (aD (top 26)):=by ext
theorem El (F:fc K "is_leaf" "is_leaf" (top 26) f fd) (T:Txt K mg) (TK:qL mg) (TB:Ha K mg aW aS) (DI:cj K mg "is_name" (top 14) ["text"] fI fdI) (DW:cj K mg "is_word" (top 24) ["thing"] fW fdW) (DN:cj K mg "is_number" (top 25) ["thing"] fN fdN):aQ P w K mg base bC 3 f fd ["test"] (Hc K):=by
 have GW:aQ P w K mg base bC 2 fW fdW ["thing"] (Ju K):=J9 DW.F T TK DI
 have GN:aQ P w K mg base bC 1 fN fdN ["thing"] (J7 K):=Kz DN.F T TK
 refine F.ok JM (by ext) fun cdv A outer s H vs Q E hr h=>?_
 obtain ⟨a,f,r,rfl,rd,td,k⟩:=h
 have hr1:bR 1 _:=hr.mono (by decide)
 refine ⟨_,(ak (bc (i:=1) JM.nd rfl (.inl rfl) (aZ aY (pv 0) aA (fun _ _=>rfl)))
  (ak (a_ (aH bz (pv 1) aM (aN _)) (aB (aJ (bN bz (aG aO (by rfl) T.len bH (aa (pv 0) aj)) aA (aN _)))) aL)
  (ak (a_ (aH bz (pv 1) aM (aN _)) (aB (aJ (cA (bN bz (aG aO (by rfl) T.len bH (aa (pv 0) aj)) aA (aN _)) (dI (bO DW GW hr (aa (aZ aY (pv 0) aA (fun _ _=>rfl)) aj)))))) aL)
  (aB (aJ (cA (bN yg (pv 1) (cB (v:=.ref aS) rfl TB.ms rfl) rfl) (cA (bN bz (aG aO (by rfl) T.len bH (aa (pv 0) aj)) aA (aN _)) (cA (bO DW GW hr (aa (aZ aY (pv 0) aA (fun _ _=>rfl)) aj)) (dI (bO DN GN hr1 (aa (aZ aY (pv 0) aA (fun _ _=>rfl)) aj))))))))))),?_⟩
 cases td with
 |node af lf nr tr=>
 cases rd with
 |@tup _ xs _ sq rs=>
 obtain ⟨x0,ys,rfl⟩:∃ x0 ys,xs=x0::ys:=by cases rs;exact ⟨_,_,rfl⟩
 obtain ⟨r0,rt⟩:Rep K H x0 (.str f)/\bj K H ys r:=by cases rs with|cons a b=>exact ⟨a,b⟩
 cases r0
 have hl:=rt.length
 refine ⟨_,rfl,a,_,_,_,rfl,rfl,sq,aF (j:=0) rfl,_,rfl,rfl,_,rfl,?_⟩
 unfold fU at k
 by_cases h1:f = "all"
 ·subst h1
  rw [if_pos rfl] at k
  refine b_ (by simp) ⟨_,rfl,a,_,rfl,.inr sq,rfl,?_⟩
  have e:decide (V.int ((V.str "all"::ys).length:Nat)=V.int 1)=r.isEmpty:=by
   rw [Bool.eq_iff_iff,decide_eq_true_eq,List.isEmpty_iff,List.length_cons,V.int.injEq]
   constructor
   ·intro h
    exact List.length_eq_zero_iff.mp (by lia)
   ·rintro rfl
    simp at hl
    simp [hl]
  rw [e]
  exact k
 ·rw [if_neg h1] at k
  refine bJ (by simp [h1]) ⟨_,rfl,rfl,_,rfl,?_⟩
  by_cases h2:f = "is"
  ·subst h2
   rw [if_pos rfl] at k
   refine b_ (by simp) ⟨_,rfl,a,_,rfl,.inr sq,rfl,_,rfl,?_⟩
   match r,ys,rt,k,hl with
   |[],[],_,k,_=>exact bJ (by simp) k
   |[d],[y],.cons ry .nil,k,_=>exact b_ (by simp) ⟨_,rfl,a,_,_,_,rfl,rfl,sq,aF (j:=1) rfl,y,d,rfl,ry,tr d (List.mem_cons_self ..),k⟩
   |_::_::_,_::_::_,_,k,_=>exact bJ (by simp;lia) k
  ·rw [if_neg h2] at k
   refine bJ (by simp [h2]) ⟨_,rfl,f,aS,dS,rfl,rfl,TB.ks,_,rfl,?_⟩
   have e:(if false=true then !(l_ dS f).isSome else (l_ dS f).isSome)=decide (f = "less"∨f = "same"):=by
    rw [Jb]
    by_cases q1:f = "less"
    ·simp [q1]
    ·by_cases q2:f = "same"
     ·rw [if_neg q1,if_pos q2];simp [q2]
     ·simp [q1,q2]
   rw [e]
   by_cases h3:f = "less"∨f = "same"
   ·rw [decide_eq_true h3,Bool.true_and] at k
    refine b_ (by simp [h3]) ⟨_,rfl,a,_,rfl,.inr sq,rfl,_,rfl,?_⟩
    match r,ys,rt,k,hl with
    |[],[],_,k,_=>exact bJ (by simp) k
    |[d],[y],_,k,_=>exact bJ (by simp) k
    | [d,d2],[y,y2],.cons ry (.cons ry2 .nil),k,_=>
      refine b_ (by simp) ⟨_,rfl,a,_,_,_,rfl,rfl,sq,aF (j:=1) rfl,y,d,rfl,ry,tr d (List.mem_cons_self ..),_,rfl,?_⟩
      have k:Q (.bl (jh d && mQ d2)) H:=k
      cases hw:jh d with
      |false=>rw [hw] at k;exact bJ rfl k
      | true=>
        rw [hw] at k
        exact b_ rfl ⟨_,rfl,a,_,_,_,rfl,rfl,sq,aF (j:=2) rfl,y2,d2,rfl,ry2,tr d2 (List.mem_cons_of_mem _ (List.mem_cons_self ..)),k⟩
    |_::_::_::_,_::_::_::_,_,k,_=>exact bJ (by simp;lia) k
   ·rw [decide_eq_false h3,Bool.false_and] at k
    exact bJ (by simp [h3]) k
end
theorem lK (h:arity f=some k):1≤k/\k≤2:=by
 unfold arity at h
 split at h
 ·cases h;lia
 ·split at h
  ·cases h;lia
  ·split at h
   ·cases h;lia
   ·cases h
theorem uq:∀ (n:Nat) (d:PyData),cnt n d+1≤2 ^ n
 |0,_=>by simp [cnt]
 | n+1,d=>by
   have ih:=uq n
   have p:1≤2 ^ n:=Nat.one_le_two_pow
   rw [Nat.pow_succ]
   by_cases hd:∃ f r,d=.tuple (.str f::r)
   ·obtain ⟨f,r,rfl⟩:=hd
    show (if fU f r=true then 1 else if arity f=some r.length then (if 0∈r.map (cnt n) then 0 else 1+(r.map (cnt n)).sum) else 0)+1≤_
    split
    ·lia
    ·split
     ·rename_i h
      split
      ·lia
      ·have a:=lK h
       match r,a with
       |[x],_=>have:=ih x;simp;lia
       |[x,y],_=>have:=ih x;have:=ih y;simp;lia
       |_::_::_::_,a=>simp at a
       |[],a=>simp at a
     ·lia
   ·have e:cnt (n+1) d=0:=by
     unfold cnt
     split
     ·lia
     ·exact absurd ⟨_,_,rfl⟩ hd
     ·rfl
    lia
theorem rR (g:PyData->Nat) (r:List PyData):(r.map fun d=>((g d:Nat):Int)).sum=(((r.map g).sum:Nat):Int):=by
 induction r with
 |nil=>rfl
 |cons d r ih=>rw [List.map_cons,List.map_cons,List.sum_cons,List.sum_cons,ih];lia
noncomputable def yd (K:Frag) (n:Nat):Sp:=fun vs H Q _=>∃ (x:V) (d:PyData),vs=[x,.int (n:Nat)]/\Rep K H x d/\TD d/\∀ H',aC H H'->Q (.int (cnt n d:Nat)) H'
noncomputable abbrev PB:List Str:=["thing","deep","counts"]
theorem Lg:aU PB ["thing","deep"] (aD (top 27)):=by ext
theorem nC:jj (x::xs) (some 1) none=xs:=by
 simp [jj,HT.eG]
theorem JV (DC:cj K mg "count_parts" (top 27) ["thing","deep"] f fd) (T:Txt K mg) (hsum:mg "sum" = none) (TK:qL mg) (TB:Ha K mg aW aS) (DI:cj K mg "is_name" (top 14) ["text"] fI fdI) (DW:cj K mg "is_word" (top 24) ["thing"] fW fdW) (DN:cj K mg "is_number" (top 25) ["thing"] fN fdN)
 (DL:cj K mg "is_leaf" (top 26) ["test"] fL fdL) (n:Nat) (hn5:n≤20):aQ P w K mg base bC (n+4) f fd ["thing","deep"] (yd K n):=by
 have GL:aQ P w K mg base bC 3 fL fdL ["test"] (Hc K):=El DL.F T TK TB DI DW DN
 have main:∀ m k:Nat,m≤20->(∀ n,n+1=m->aQ P w K mg base bC (n+4) f fd ["thing","deep"] (yd K n))->aQ P w K mg base bC (m+4) f fd ["thing","deep"] (yd K m):=by
  intro m k0 hm GC
  refine DC.F.ok Lg (fun vs H Q E h=>?_) (fun cdv A outer s H vs Q E hr h=>?_)
  ·obtain ⟨x,d,rfl,_⟩:=h
   rfl
  ·obtain ⟨x,d,rfl,rd,td,k⟩:=h
   have hr3:bR 3 _:=hr.mono (by lia)
   have GC':aQ P w K mg base bC (m+3) f fd ["thing","deep"] (fun vs H Q E=>∃ n,n+1=m/\yd K n vs H Q E):=by
    match m,GC with
    |0,_=>exact ⟨fun _ _ _ _ ⟨n,e,_⟩=>by lia,fun _ _ _ _ _ _ _ _ _ _ _ _ _ ⟨n,e,_⟩=>by lia⟩
    | m+1,GC=>
      have G:=GC m rfl
      exact ⟨fun vs H Q E ⟨n,e,h⟩=>by cases e;exact G.1 vs H Q E h,fun a1 a2 a3 a4 a5 a6 a7 a8 a9 a10 a11 a12 a13 ⟨n,e,h⟩=>by cases e;exact G.2 a1 a2 a3 a4 a5 a6 a7 a8 a9 a10 a11 a12 a13 h⟩
   refine ⟨_,(ak (a_ (PW.pt (gJ (aH bz (pv 1) aA (aN _)) (gJ (cN (bU (aG bK (by rfl) T.isinstance aV (aa (pv 0) (aa (cP rfl T.tuple fu) aj))))) (fJ (aH bz (aG aO (by rfl) T.len bH (aa (pv 0) aj)) aA (aN _)))))) (aB (aJ aA)) aL)
    (ak (a_ (bU (bO DL GL hr3 (aa (pv 0) aj))) (aB (aJ aA)) aL)
    (ak (a_ (aH mC (v_ (cB (v:=.ref aW) rfl TB.mw rfl) (aZ aY (pv 0) aA (fun _ _=>rfl)) ⟨rfl,rfl,rfl,rfl⟩) (bh dM (aG aO (by rfl) T.len bH (aa (pv 0) aj)) aA) (aN _)) (aB (aJ aA)) aL)
    (ak (eY (g:=bG 0) (i:=2) (own:=["part"]) (js:=[1]) (N':=["part","deep"]) (bL.of (osc:=aD (top 27)) (N:=PB) rfl rfl (by ext)) rfl Lg.nd rfl rfl (iB (cG gn (pv 0) (cR aA) cW)) (fun _ _ _ _ _=>(aK (i:=0) (show List.Nodup (["part","deep"]:List Str) by ext) rfl (.inl rfl) (.inr rfl))) (fun _ _ _ _ _=>dF) (fun _ _ _ _ _=>jC GC' hr rfl DC.mg DC.F.kp DC.b .nil lC (aa (pv 0) (aa (bh dM (pv 1) aA) aj))))
    (aB (aJ (eN (aH dX aA (pv 2) rfl) aA (bh cH aA (aG (pX rfl) (by rfl) hsum yw (aa (pv 2) aj)))))))))),?_⟩
   refine ⟨_,rfl,rfl,_,rfl,?_⟩
   by_cases h0:m=0
   ·subst h0
    exact b_ (by simp) (b_ rfl (k _ (aC.refl _)))
   refine bJ (by simp [h0]) ?_
   obtain ⟨n,rfl⟩:∃ n,m=n+1:=⟨m-1,by lia⟩
   cases td with
   |str a l=>cases rd;exact ⟨_,rfl,_,_,_,_,rfl,.str _,rfl,_,rfl,b_ rfl (b_ rfl (k _ (aC.refl _)))⟩
   |int a b=>cases rd;exact ⟨_,rfl,_,_,_,_,rfl,.int _,rfl,_,rfl,b_ rfl (b_ rfl (k _ (aC.refl _)))⟩
   | nil=>
     cases rd with
     |@tup a xs _ sq rs=>
     cases rs
     exact ⟨_,rfl,_,_,_,_,rfl,.tup sq .nil,rfl,_,rfl,bJ rfl ⟨_,rfl,a,_,rfl,.inr sq,rfl,_,rfl,b_ (by simp) (k _ (aC.refl _))⟩⟩
   |@node f r af lf nr tr=>
   have rd0:=rd
   cases rd with
   |@tup a xs _ sq rs=>
   obtain ⟨x0,ys,rfl⟩:∃ x0 ys,xs=x0::ys:=by cases rs;exact ⟨_,_,rfl⟩
   obtain ⟨r0,rt⟩:Rep K H x0 (.str f)/\bj K H ys r:=by cases rs with|cons a b=>exact ⟨a,b⟩
   cases r0
   have hl:=rt.length
   refine ⟨_,rfl,_,_,_,_,rfl,rd0,rfl,_,rfl,bJ rfl ⟨_,rfl,a,_,rfl,.inr sq,rfl,_,rfl,bJ (by simp;lia) ?_⟩⟩
   refine ⟨_,rfl,a,f,r,rfl,rd0,.node af lf nr tr,_,rfl,?_⟩
   have e1:cnt (n+1) (.tuple (.str f::r))=if fU f r=true then 1 else if arity f=some r.length then (if 0∈r.map (cnt n) then 0 else 1+(r.map (cnt n)).sum) else 0:=rfl
   rw [e1] at k
   by_cases hlf:fU f r=true
   ·rw [if_pos hlf] at k
    rw [hlf]
    exact b_ rfl (k _ (aC.refl _))
   rw [if_neg hlf] at k
   rw [Bool.eq_false_iff.mpr hlf]
   refine bJ rfl ?_
   refine ⟨aW,dW,rfl,TB.kw,_,rfl,a,_,_,_,rfl,rfl,sq,aF (j:=0) rfl,f,rfl,_,rfl,a,_,rfl,.inr sq,_,_,rfl,rfl,?_⟩
   rw [K3]
   by_cases ha:arity f=some r.length
   ·rw [if_pos ha] at k
    rw [ha]
    refine ⟨rfl,_,rfl,bJ (by simp;lia) ?_⟩
    refine ⟨_,rfl,1,rfl,a,_,rfl,sq,(fun e=>?_),fun p hp=>?_⟩
    ·rw [nC] at e
     have:=congrArg List.length e
     simp at this
    ·rw [nC]
     have sp:bD K (upd H p (.tup ys)) p ys:=bD.of au
     have s1:aC H (upd H p (.tup ys)):=aC.new hp
     generalize upd H p (.tup ys)=H1 at sp s1 ⊢
     refine ⟨p,rfl,⟨_,sp⟩,?_⟩
     refine jn (K:=K) (a:=p) (xs:=ys) (fun i zs σ' H'=>(∃ v,σ'=[v,some (.int (n+1:Nat))])/\aC H1 H'/\zs=((r.take i).map fun d=>V.int (cnt n d:Nat))) (Nat.le_trans (show ys.length≤20 by lia) (by decide)) ⟨⟨none,rfl⟩,aC.refl _,rfl⟩ (fun i zs σ' H' _ ⟨_,s2,_⟩=>s2.tup sp) ?_ ?_
     ·rintro i y zs σ' H2 hy hzs ⟨⟨v,rfl⟩,s2,rfl⟩ N hN
      obtain ⟨d,hd,ry⟩:=rt.get' hy
      refine ⟨_,rfl,_,rfl,_,_,rfl,rfl,n,rfl,y,d,?_,ry.same (s1.trans s2),tr d (List.mem_of_getElem? hd),fun H3 s3=>?_⟩
      ·show [y,V.int ((n+1:Nat)-1)]=[y,V.int (n:Nat)]
       rw [show (((n+1:Nat):Int)-1)=(n:Nat) by lia]
      ·exact hN _ _ _ (by rw [List.length_append,hzs];rfl) ⟨⟨_,rfl⟩,s2.trans s3,by rw [List.take_add_one,hd];simp⟩
     ·rintro zs σ' H2 hzs ⟨⟨v,rfl⟩,s2,rfl⟩
      rw [List.take_of_length_le (by lia)]
      have lr:(r.map fun d=>V.int (cnt n d:Nat)).length≤20:=by rw [List.length_map];lia
      refine ⟨Nat.le_trans lr (by decide),fun q hq=>?_⟩
      have s3:aC H (upd H2 q (.lst (r.map fun d=>V.int (cnt n d:Nat)))):=(s1.trans s2).trans (aC.new hq)
      have sq2:bF K (upd H2 q (.lst (r.map fun d=>V.int (cnt n d:Nat)))) q (r.map fun d=>V.int (cnt n d:Nat)):=bF.of au
      generalize upd H2 q (.lst (r.map fun d=>V.int (cnt n d:Nat)))=H3 at s3 sq2 ⊢
      refine ⟨_,rfl,q,_,rfl,.inl sq2,rfl,by simp [jP],_,rfl,?_⟩
      have ein:(if false=true then !inV (.int 0) (r.map fun d=>V.int (cnt n d:Nat)) else inV (.int 0) (r.map fun d=>V.int (cnt n d:Nat)))=decide (0∈r.map (cnt n)):=by
       show inV (.int 0) (r.map fun d=>V.int (cnt n d:Nat))=_
       rw [Bool.eq_iff_iff,decide_eq_true_eq]
       unfold inV
       simp only [List.any_eq_true,List.mem_map]
       constructor
       ·rintro ⟨_,⟨d,hd,rfl⟩,he⟩
        exact ⟨d,hd,by simpa [rP] using he⟩
       ·rintro ⟨d,hd,he⟩
        exact ⟨_,⟨d,hd,rfl⟩,by simp [he,rP]⟩
      rw [ein]
      by_cases hz:0∈r.map (cnt n)
      ·rw [if_pos hz] at k
       rw [decide_eq_true hz]
       exact b_ rfl (k _ s3)
      ·rw [if_neg hz] at k
       rw [decide_eq_false hz]
       refine bJ rfl ?_
       refine ⟨_,rfl,q,r.map fun d=>((cnt n d:Nat):Int),rfl,by rw [List.map_map];exact sq2,by rw [List.length_map];lia,fun x hx=>?_,_,_,rfl,rfl,?_⟩
       ·obtain ⟨d,_,rfl⟩:=List.mem_map.mp hx
        have:=uq n d
        have p20:2 ^ n≤2 ^ 20:=Nat.pow_le_pow_right (by decide) (by lia)
        have:(2:Nat) ^ 20=1048576:=by decide
        lia
       ·have es:=rR (cnt n) r
        rw [es]
        have:=k _ s3
        rw [show ((1+(r.map (cnt n)).sum:Nat):Int)=1+(((r.map (cnt n)).sum:Nat):Int) by lia] at this
        exact this
   ·rw [if_neg ha] at k
    cases hb:arity f with
    |none=>exact ⟨rfl,_,rfl,b_ rfl (k _ (aC.refl _))⟩
    | some j=>
      refine ⟨rfl,_,rfl,b_ ?_ (k _ (aC.refl _))⟩
      have:¬ j=r.length:=fun e=>ha (by rw [hb,e])
      simp
      lia
 induction n with
 |zero=>exact main 0 0 (by lia) (fun n e=>by lia)
 |succ n ih=>exact main (n+1) 0 hn5 (fun n' e=>by cases e;exact ih (by lia))
theorem oN:∀ {r:List PyData} {d:PyData},shapes r=true->d∈r->bQ d=true
 | e::r,d,h,m=>by
   have h:(bQ e && shapes r)=true:=h
   rw [Bool.and_eq_true] at h
   rcases List.mem_cons.mp m with rfl|m
   ·exact h.1
   ·exact oN h.2 m
theorem pI:∀ {r:List PyData} {d:PyData},d∈r->bT d≤dh r
 | e::r,d,m=>by
   have h:dh (e::r)=max (bT e) (dh r):=rfl
   rcases List.mem_cons.mp m with rfl|m
   ·lia
   ·have:=pI m
    lia
theorem nT:∀ (a b:List PyData),kJ (a++b)=kJ a++kJ b
 |[],b=>rfl
 | d::a,b=>by
   show sE d++kJ (a++b)=(sE d++kJ a)++kJ b
   rw [nT a b,List.append_assoc]
theorem iJ (d:PyData):kJ [d]=sE d:=by
 show sE d++[]=_
 rw [List.append_nil]
structure Node (n:Nat) (f:Str) (r:List PyData):Prop where
 ar:arity f=some r.length
 sh:∀ d∈r,bQ d=true
 de:∀ d∈r,bT d≤n
theorem iZ (h:bQ (.tuple (.str f::r))=true) (hd:bT (.tuple (.str f::r))≤n+1):(arity f=none/\fU f r=true)∨Node n f r:=by
 rw [gj] at h
 by_cases ha:arity f=none
 ·rw [if_pos ha] at h
  exact .inl ⟨ha,h⟩
 ·rw [if_neg ha,Bool.and_eq_true,decide_eq_true_eq] at h
  have e:bT (.tuple (.str f::r))=if (arity f).isSome=true then 1+dh r else 1:=rfl
  rw [h.1] at e
  have e:bT (.tuple (.str f::r))=1+dh r:=e
  exact .inr ⟨h.1,fun d m=>oN h.2 m,fun d m=>by have:=pI m;lia⟩
theorem dj (td:TD d) (h:bQ d=true):∃ f r,d=.tuple (.str f::r):=by
 cases td with
 |node a b c e=>exact ⟨_,_,rfl⟩
 |_=>exact absurd h (by simp [bQ])
theorem kY:∀ {n:Nat} {d:PyData},TD d->bQ d=true->bT d≤n->(sE d).length≤2 ^ n
 |0,d,_,_,h=>by have:=eF d;lia
 | n+1,d,td,sh,h=>by
   obtain ⟨f,r,rfl⟩:=dj td sh
   have p:1≤2 ^ n:=Nat.one_le_two_pow
   have e:sE (.tuple (.str f::r))=if (arity f).isSome=true then kJ r else [.tuple (.str f::r)]:=rfl
   rw [e,Nat.pow_succ]
   cases td with
   |node a b c tr=>
   rcases iZ sh h with ⟨ha,_⟩|N
   ·rw [ha];simp;lia
   ·rw [N.ar]
    simp only [Option.isSome_some,if_true]
    have a2:=lK N.ar
    match r,a2,N,tr with
    | [x],_,N,tr=>
      have:=kY (tr x (by simp)) (N.sh x (by simp)) (N.de x (by simp))
      rw [iJ];lia
    | [x,y],_,N,tr=>
      have h1:=kY (tr x (by simp)) (N.sh x (by simp)) (N.de x (by simp))
      have h2:=kY (tr y (by simp)) (N.sh y (by simp)) (N.de y (by simp))
      have:kJ [x,y]=sE x++sE y:=by rw [show [x,y]=[x]++[y] from rfl,nT,iJ,iJ]
      rw [this,List.length_append];lia
    |_::_::_::_,a2,_,_=>simp at a2
    |[],a2,_,_=>simp at a2
theorem qb (h:bD K H a xs) (hq:H q=some (.lst ys)):bD K (upd H q o) a xs:=by
 rcases h with (h|⟨ob,h⟩)|h
 ·exact .inl (.inl (by rw [aX (gw h hq (by intro z;cases z))];exact h))
 ·exact .inl (.inr ⟨ob,by rw [aX (gw h hq (by intro z;cases z))];exact h⟩)
 ·exact .inr h
theorem Ax (hq:H q=some (.lst ys)):∀ {d:PyData} {v:V},TD d->Rep K H v d->Rep K (upd H q o) v d:=by
 intro d v td
 induction td generalizing v with
 |str a l=>intro r;cases r;exact .str _
 |int a b=>intro r;cases r;exact .int _
 |nil=>intro r;cases r with|tup sq rs=>cases rs;exact .tup (qb sq hq) .nil
 | @node f r a b c tr ih=>
   intro rp
   cases rp with
   |tup sq rs=>
   cases rs with
   |cons r0 rs=>
   cases r0
   refine .tup (qb sq hq) (.cons (.str _) ?_)
   have:∀ {l:List PyData} {vs:List V},(∀ d∈l,d∈r)->bj K H vs l->bj K (upd H q o) vs l:=by
    intro l
    induction l with
    |nil=>intro vs _ h;cases h;exact .nil
    | cons e l ihl=>
      intro vs hm h
      cases h with
      |cons h1 h2=>exact .cons (ih e (hm e (List.mem_cons_self ..)) h1) (ihl (fun d m=>hm d (List.mem_cons_of_mem _ m)) h2)
   exact this (fun d m=>m) rs
theorem nY (hq:H q=some (.lst ys)):∀ {l:List PyData} {vs:List V},(∀ d∈l,TD d)->bj K H vs l->bj K (upd H q o) vs l
 |[],_,_,.nil=>.nil
 |e::l,_,ht,.cons a b=>.cons (Ax hq (ht e (List.mem_cons_self ..)) a) (nY hq (fun d m=>ht d (List.mem_cons_of_mem _ m)) b)
theorem gB:∀ {l m:List PyData} {vs us:List V},bj K H vs l->bj K H us m->bj K H (vs++us) (l++m)
 |[],_,_,_,.nil,h=>h
 |_::_,_,_,_,.cons a b,h=>.cons a (gB b h)
section
variable {P:Program} {w:World} {K:PySem.W.Frag} {mg:Str->Option Value} {base:Heap}
structure K6 (mg:Str->Option Value):Prop where
 mp:∃ t,mg "MOST_PARTS" = some (.int 15 t)
 md:∃ t,mg "MOST_DEEP" = some (.int 5 t)
noncomputable def KJ (K:Frag):Sp:=fun vs H Q _=>∃ (x:V) (d:PyData),vs=[x]/\Rep K H x d/\TD d/\∀ H',aC H H'->Q (.bl (fH d)) H'
theorem Ni:aU ["test"] ["test"] (aD (top 28)):=by ext
theorem Ka (F:fc K "is_test" "is_test" (top 28) f fd) (TT:K6 mg) (DC:cj K mg "count_parts" (top 27) ["thing","deep"] fC fdC) (GC:aQ P w K mg base bC 9 fC fdC ["thing","deep"] (yd K 5)):aQ P w K mg base bC 10 f fd ["test"] (KJ K):=by
 refine F.ok Ni (by ext) fun cdv A outer s H vs Q E hr h=>?_
 obtain ⟨x,d,rfl,rd,td,k⟩:=h
 obtain ⟨t1,mp⟩:=TT.mp
 obtain ⟨t2,md⟩:=TT.md
 refine ⟨_,(aB (aJ (j7 gO gO aA (bO DC GC hr (aa (pv 0) (aa (cB (v:=.int 5) rfl md ⟨_,rfl⟩) aj))) (cB (v:=.int 15) rfl mp ⟨_,rfl⟩)))),?_⟩
 refine ⟨_,rfl,x,d,rfl,rd,td,fun H' s1=>⟨_,_,rfl,rfl,_,rfl,?_⟩⟩
 have k:=k H' s1
 rw [← CT] at k
 refine dC (fun h=>?_) (fun h=>?_)
 ·refine ⟨_,_,rfl,rfl,?_⟩
  have e1:1≤cnt 5 d:=by simp at h;lia
  have e2:decide (((cnt 5 d:Nat):Int)≤15)=decide (cnt 5 d≤15):=by rw [Bool.eq_iff_iff];simp;lia
  rw [decide_eq_true e1,Bool.true_and] at k
  show Q (.bl (decide (((cnt 5 d:Nat):Int)≤15))) H'
  rw [e2]
  exact k
 ·have e1:¬ 1≤cnt 5 d:=by simp at h;lia
  rw [decide_eq_false e1,Bool.false_and] at k
  exact k
noncomputable def KQ (K:Frag) (cT:Addr):Sp:=fun vs H Q E=>∃ (x:V) (d:PyData),vs=[x]/\Rep K H x d/\TD d/\(fH d=true->∀ H',aC H H'->Q .non H')/\(fH d=false->False)
theorem O6:aU ["test"] ["test"] (aD (top 29)):=by ext
theorem Jt (F:fc K "need_test" "need_test" (top 29) f fd) (DI:cj K mg "is_test" (top 28) ["test"] fI fdI) (GI:aQ P w K mg base bC 10 fI fdI ["test"] (KJ K)):aQ P w K mg base bC 11 f fd ["test"] (KQ K cT):=by
 refine F.ok O6 (by ext) fun cdv A outer s H vs Q E hr h=>?_
 obtain ⟨x,d,rfl,rd,td,k,kx⟩:=h
 have hr3:bR 3 _:=hr.mono (by decide)
 refine ⟨_,(aB (a_ (cN (bU (bO DI GI hr (aa (pv 0) aj)))) (aB d9) aL)),?_⟩
 refine ⟨_,rfl,x,d,rfl,rd,td,fun H1 s1=>⟨_,rfl,?_⟩⟩
 cases h:fH d with
 |true=>exact bJ rfl (k h H1 s1)
 |false=>exact b_ rfl (kx h)
theorem iM (h:fH d=true):bQ d=true/\bT d≤5/\cC d≤15:=by
 unfold fH at h
 simpa using h
end
theorem Cp (h:mQ (.int i)=true):(Str.ofString (toString i)).length≤8/\i.natAbs.log2<1920:=by
 have h:(decide (-999999≤i) && decide (i≤999999))=true:=h
 simp at h
 constructor
 ·have:=int_text_length_le10 (a:=i) (k:=6) (by decide) (by lia)
  have e:(Str.ofString (toString i)).length=(toString i).length:=ofString_length _
  lia
 ·by_cases h0:i.natAbs=0
  ·rw [h0];decide
  ·exact Nat.lt_trans ((Nat.log2_lt h0).mpr (show i.natAbs<2 ^ 20 by lia)) (by decide)
inductive lu:Str->List PyData->Prop
 |all:lu "all" []
 |is {x:Str}:nameB x=true->lu "is" [.str x]
 |num {f x:Str} {i:Int}:f = "less"∨f = "same"->nameB x=true->mQ (.int i)=true->lu f [.str x,.int i]
theorem qw (h:fU f r=true):lu f r:=by
 unfold fU at h
 by_cases h1:f = "all"
 ·subst h1
  rw [if_pos rfl,List.isEmpty_iff] at h
  subst h
  exact .all
 ·rw [if_neg h1] at h
  by_cases h2:f = "is"
  ·subst h2
   rw [if_pos rfl] at h
   cases r with
   |nil=>cases h
   | cons d r=>
     cases r with
     |cons _ _=>cases h
     | nil=>
       cases d with
       |str x=>exact .is h
       |_=>exact absurd h (by simp [jh])
  ·rw [if_neg h2,Bool.and_eq_true,decide_eq_true_eq] at h
   obtain ⟨h0,h⟩:=h
   cases r with
   |nil=>cases h
   | cons d r=>
     cases r with
     |nil=>cases h
     | cons e r=>
       cases r with
       |cons _ _=>cases h
       | nil=>
         have h:(jh d && mQ e)=true:=h
         rw [Bool.and_eq_true] at h
         cases d with
         | str x=>
           cases e with
           |int i=>exact .num h0 h.1 h.2
           |_=>exact absurd h.2 (by simp [mQ])
         |_=>exact absurd h.1 (by simp [jh])
theorem lu.ar (h:lu f r):arity f=none:=by
 cases h with
 |all=>decide +kernel
 |is _=>decide +kernel
 |num h _ _=>rcases h with rfl|rfl <;> decide +kernel
theorem lU (h:Nm x):ie x:=by
 unfold ie
 rw [← Array.all_toList,List.all_eq_true]
 intro c hc
 have:=h.lc c hc
 simp;lia
structure Tr (n:Nat) (d:PyData):Prop where
 td:TD d
 sh:bQ d=true
 dp:bI d≤n
theorem Dc (h:Nm x):TD (.str x):=.str (lU h) (by have:=h.hi;lia)
theorem lu.tr (h:lu f r):Tr 1 (.tuple (.str f::r)):=by
 have sh:bQ (.tuple (.str f::r))=true:=by
  rw [gj,h.ar,if_pos rfl]
  cases h with
  |all=>rfl
  |is n=>exact n
  | num h n m=>
    unfold fU
    rcases h with rfl|rfl
    ·rw [if_neg (by ext),if_neg (by ext)];simp [jh,n,m]
    ·rw [if_neg (by ext),if_neg (by ext)];simp [jh,n,m]
 cases h with
 |all=>exact ⟨.node (by unfold ie;decide +kernel) (by ext) (by simp) (by simp),sh,by simp [bI,bB]⟩
 | @is x n=>
   refine ⟨.node (by unfold ie;decide +kernel) (by ext) (by simp) (fun d m=>?_),sh,by simp [bI,bB]⟩
   simp at m;subst m
   exact Dc ((cQ x).mp n)
 | @num f x i h n m1=>
   refine ⟨.node ?_ ?_ (by simp) (fun d m=>?_),sh,by simp [bI,bB]⟩
   ·rcases h with rfl|rfl <;> (unfold ie;decide +kernel)
   ·rcases h with rfl|rfl <;> decide +kernel
   ·simp at m
    rcases m with rfl|rfl
    ·exact Dc ((cQ x).mp n)
    ·have h:(decide (-999999≤i) && decide (i≤999999))=true:=m1
     simp at h
     have:(1000000:Int)≤qX:=by decide
     exact .int (by lia) (by lia)
noncomputable def Jm:Sp:=fun vs H Q _=>∃ (p dc:Addr),vs=[.ref p]/\Dr H p dc/\∀ (z:Int) (H':Hp),-999999≤z->z≤999999->Dr H' p dc->bW p H H'->Q (.int z) H'
theorem Jh:aU ["_law_d"] ["_law_d"] (aD (top 62)):=by ext
theorem JC (F:fc K "_law_number" "_law_number" (top 62) f fd) (T:Txt K mg) (DP:cj K mg "_law_pick" (top 51) ["_law_d","_law_many"] fP fdP) (DO:cj K mg "_law_of" (top 52) ["_law_d","_law_things"] fO fdO):aQ P w K mg base bC 3 f fd ["_law_d"] Jm:=by
 have GP:aQ P w K mg base bC 1 fP fdP ["_law_d","_law_many"] d_:=dw DP.F T
 have GO:aQ P w K mg base bC 2 fO fdO ["_law_d","_law_things"] (oU K):=lJ DO.F T DP
 refine F.ok Jh (by ext) fun cdv A outer s H vs Q E hr h=>?_
 obtain ⟨p,dc,rfl,D,k⟩:=h
 have hr1:bR 1 _:=hr.mono (by decide)
 refine ⟨_,(aB (aJ (bO DO GO hr (aa (pv 0) (aa (bM (aa aA (aa aA (aa (bO DP GP hr1 (aa (pv 0) (aa aA aj))) (aa (bh dM (bO DP GP hr1 (aa (pv 0) (aa aA aj))) aA) (aa aA (aa (jL iu aA) (aa (bh dM (bO DP GP hr1 (aa (pv 0) (aa aA aj))) aA) aj)))))))) aj))))),?_⟩
 refine ⟨_,rfl,_,rfl,p,dc,_,rfl,D,by decide,by decide,fun r1 H1 r10 r11 D1 b1=>?_⟩
 refine ⟨_,rfl,p,dc,_,rfl,D1,by decide,by decide,fun r2 H2 r20 r21 D2 b2=>⟨_,_,rfl,rfl,_,rfl,?_⟩⟩
 refine ⟨_,rfl,p,dc,_,rfl,D2,by decide,by decide,fun r3 H3 r30 r31 D3 b3=>⟨_,_,rfl,rfl,(by ext),fun q hq=>?_⟩⟩
 refine ⟨p,dc,q,_,rfl,D3.new hq,bF.of au,by simp,by simp,fun y H4 hy D4 b4=>?_⟩
 obtain ⟨z,rfl,h1,h2⟩:∃ z:Int,y=.int z/\-999999≤z/\z≤999999:=by
  simp only [List.mem_cons,List.not_mem_nil,or_false] at hy
  rcases hy with rfl|rfl|rfl|rfl|rfl|rfl|rfl
  all_goals exact ⟨_,rfl,by lia,by lia⟩
 exact k z H4 h1 h2 D4 (((b1.trans b2).trans b3).trans ((bW.new hq).trans b4))
noncomputable def Bp (K:Frag):Sp:=fun vs H Q _=>∃ (p dc q q':Addr) (ys ys':List Str),vs=[.ref p,.ref q,.ref q']/\Dr H p dc/\bF K H q (ys.map V.str)/\bF K H q' (ys'.map V.str)/\ys≠[]/\ys'≠[]/\ys.length≤100/\ys'.length≤100/\(∀ y∈ys,Nm y)/\(∀ y∈ys',Nm y)/\
 ∀ (x:V) (f:Str) (r:List PyData) (H':Hp),Rep K H' x (.tuple (.str f::r))->lu f r->Dr H' p dc->bW p H H'->Q x H'
noncomputable abbrev QH:List Str:=["_law_d","_law_names","_law_kinds","_law_way"]
theorem Io:aU QH ["_law_d","_law_names","_law_kinds"] (aD (top 63)):=by ext
theorem vJ {ys:List Str} (h:v∈ys.map V.str):∃ y∈ys,v=.str y:=by
 obtain ⟨y,m,rfl⟩:=List.mem_map.mp h
 exact ⟨y,m,rfl⟩
theorem CW (F:fc K "_law_leaf" "_law_leaf" (top 63) f fd) (T:Txt K mg) (DP:cj K mg "_law_pick" (top 51) ["_law_d","_law_many"] fP fdP) (DO:cj K mg "_law_of" (top 52) ["_law_d","_law_things"] fO fdO) (DN:cj K mg "_law_number" (top 62) ["_law_d"] fN fdN):aQ P w K mg base bC 4 f fd ["_law_d","_law_names","_law_kinds"] (Bp K):=by
 have GP:aQ P w K mg base bC 1 fP fdP ["_law_d","_law_many"] d_:=dw DP.F T
 have GO:aQ P w K mg base bC 2 fO fdO ["_law_d","_law_things"] (oU K):=lJ DO.F T DP
 have GN:aQ P w K mg base bC 3 fN fdN ["_law_d"] Jm:=JC DN.F T DP DO
 refine F.ok Io (by ext) fun cdv A outer s H vs Q E hr h=>?_
 obtain ⟨p,dc,q,q',ys,ys',rfl,D,hq,hq',ne,ne',l,l',nm,nm',k⟩:=h
 have hr1:bR 1 _:=hr.mono (by decide)
 have hr2:bR 2 _:=hr.mono (by decide)
 refine ⟨_,(ak (bc (i:=3) Io.nd rfl (.inl rfl) (bO DP GP hr1 (aa (pv 0) (aa aA aj))))
  (ak (a_ (aH bz (pv 3) aA (aN _)) (aB (aJ (bu (aa aM aj)))) aL)
  (ak (a_ (aH bz (pv 3) aA (aN _)) (aB (aJ (bu (aa aM (aa (bO DO GO hr2 (aa (pv 0) (aa (pv 2) aj))) aj))))) aL)
  (aB (aJ (bu (aa (aZ cF (bM (aa aM (aa aM aj))) (bh iz (pv 3) aA) (fun _ _=>rfl)) (aa (bO DO GO hr2 (aa (pv 0) (aa (pv 1) aj))) (aa (bO DN GN hr (aa (pv 0) aj)) aj))))))))),?_⟩
 refine ⟨_,rfl,p,dc,_,rfl,D,by decide,by decide,fun w1 H1 w0 w6 D1 b1=>⟨_,rfl,rfl,_,rfl,?_⟩⟩
 refine dC (fun _=>⟨(by ext),fun t ht=>?_⟩) (fun _=>⟨_,rfl,rfl,_,rfl,?_⟩)
 ·exact k _ "all" [] _ (.tup (bD.of au) (.cons (.str _) .nil)) .all (D1.new ht) (b1.trans (bW.new ht))
 refine dC (fun _=>?_) (fun _=>?_)
 ·refine ⟨_,rfl,_,rfl,p,dc,q',_,rfl,D1,D.seq b1 hq',by simpa using ne',by rw [List.length_map];lia,fun y H2 hy D2 b2=>⟨(by ext),fun t ht=>?_⟩⟩
  obtain ⟨y,my,rfl⟩:=vJ hy
  exact k _ "is" [.str y] _ (.tup (bD.of au) (.cons (.str _) (.cons (.str _) .nil))) (.is ((cQ y).mpr (nm' y my))) (D2.new ht) ((b1.trans b2).trans (bW.new ht))
 ·refine ⟨(by ext),fun l0 hl0=>⟨_,rfl,_,_,rfl,rfl,(by show (0:Int)<2;decide),?_⟩⟩
  have b2:bW p H (upd H1 l0 (.lst [.str "less",.str "same"])):=b1.trans (bW.new hl0)
  obtain ⟨j,hj,ej⟩:∃ j:Nat,j<2/\w1 % 2=j:=⟨(w1 % 2).toNat,by lia,by lia⟩
  have D2:=D1.new (o:=.lst [.str "less",.str "same"]) hl0
  obtain ⟨f0,hf,ef⟩:∃ f0:Str,(f0 = "less"∨f0 = "same")/\([V.str "less",V.str "same"])[j]?=some (.str f0):=by
   match j,hj with
   |0,_=>exact ⟨"less",.inl rfl,rfl⟩
   |1,_=>exact ⟨"same",.inr rfl,rfl⟩
  refine ⟨l0,_,_,_,rfl,rfl,bF.of au,(by rw [ej];exact aF ef),_,rfl,_,rfl,p,dc,q,_,rfl,D2,D.seq b2 hq,by simpa using ne,by rw [List.length_map];lia,fun y H3 hy D3 b3=>?_⟩
  obtain ⟨y,my,rfl⟩:=vJ hy
  refine ⟨_,rfl,p,dc,rfl,D3,fun z H4 z1 z2 D4 b4=>⟨(by ext),fun t ht=>?_⟩⟩
  exact k _ f0 [.str y,.int z] _ (.tup (bD.of au) (.cons (.str _) (.cons (.str _) (.cons (.int _) .nil)))) (.num hf ((cQ y).mpr (nm y my)) (by simp [mQ];lia)) (D4.new ht) (((b2.trans b3).trans b4).trans (bW.new ht))
theorem Tr.mono (h:Tr n d) (l:n≤m):Tr m d:=⟨h.td,h.sh,Nat.le_trans h.dp l⟩
theorem Tr.one (h:Tr n d):Tr (n+1) (.tuple [.str "not",d]):=by
 refine ⟨.node (by unfold ie;decide +kernel) (by ext) (by simp) (fun e m=>?_),?_,?_⟩
 ·simp at m;subst m;exact h.td
 ·rw [gj,show arity "not" = some 1 from by ext,if_neg (by nofun)]
  simp [shapes,h.sh]
 ·have:=h.dp
  simp [bI,bB];lia
theorem Tr.two {n:Nat} {f:Str} {d e:PyData} (hf:f = "and"∨f = "or") (h:Tr n d) (h':Tr n e):Tr (n+1) (.tuple [.str f,d,e]):=by
 refine ⟨.node ?_ ?_ (by simp) (fun e m=>?_),?_,?_⟩
 ·rcases hf with rfl|rfl <;> (unfold ie;decide +kernel)
 ·rcases hf with rfl|rfl <;> decide +kernel
 ·simp at m
  rcases m with rfl|rfl
  ·exact h.td
  ·exact h'.td
 ·have ha:arity f=some 2:=by rcases hf with rfl|rfl <;> decide +kernel
  rw [gj,ha,if_neg (by nofun)]
  simp [shapes,h.sh,h'.sh]
 ·have:=h.dp
  have:=h'.dp
  simp [bI,bB];lia
noncomputable def Ah (K:Frag) (n:Nat):Sp:=fun vs H Q _=>∃ (p dc q q':Addr) (ys ys':List Str) (m:Int),vs=[.ref p,.int m,.ref q,.ref q']/\m≤n/\Dr H p dc/\bF K H q (ys.map V.str)/\bF K H q' (ys'.map V.str)/\ys≠[]/\ys'≠[]/\ys.length≤100/\ys'.length≤100/\(∀ y∈ys,Nm y)/\(∀ y∈ys',Nm y)/\
 ∀ (x:V) (d:PyData) (H':Hp),Rep K H' x d->Tr n d->Dr H' p dc->bW p H H'->Q x H'
noncomputable abbrev QB:List Str:=["_law_d","_law_deep_here","_law_names","_law_kinds","_law_way","_law_word_here"]
theorem Gi:aU QB ["_law_d","_law_deep_here","_law_names","_law_kinds"] (aD (top 64)):=by ext
theorem JF {f fP fO fN fL:Addr} {fd fdP fdO fdN fdL:FuncData} (DT:cj K mg "_law_tree" (top 64) ["_law_d","_law_deep_here","_law_names","_law_kinds"] f fd) (T:Txt K mg) (DP:cj K mg "_law_pick" (top 51) ["_law_d","_law_many"] fP fdP) (DO:cj K mg "_law_of" (top 52) ["_law_d","_law_things"] fO fdO) (DN:cj K mg "_law_number" (top 62) ["_law_d"] fN fdN)
 (DL:cj K mg "_law_leaf" (top 63) ["_law_d","_law_names","_law_kinds"] fL fdL) (n:Nat):aQ P w K mg base bC (n+5) f fd ["_law_d","_law_deep_here","_law_names","_law_kinds"] (Ah K (n+1)):=by
 have GP:aQ P w K mg base bC 1 fP fdP ["_law_d","_law_many"] d_:=dw DP.F T
 have GL:aQ P w K mg base bC 4 fL fdL ["_law_d","_law_names","_law_kinds"] (Bp K):=CW DL.F T DP DO DN
 have main:∀ m:Nat,(∀ j,j+1=m->aQ P w K mg base bC (j+5) f fd ["_law_d","_law_deep_here","_law_names","_law_kinds"] (Ah K (j+1)))->aQ P w K mg base bC (m+5) f fd ["_law_d","_law_deep_here","_law_names","_law_kinds"] (Ah K (m+1)):=by
  intro m GC
  have GT:aQ P w K mg base bC (m+4) f fd ["_law_d","_law_deep_here","_law_names","_law_kinds"] (fun vs H Q E=>∃ j,j+1=m/\Ah K (j+1) vs H Q E):=by
   match m,GC with
   |0,_=>exact ⟨fun _ _ _ _ ⟨n,e,_⟩=>by lia,fun _ _ _ _ _ _ _ _ _ _ _ _ _ ⟨n,e,_⟩=>by lia⟩
   | m+1,GC=>
     have G:=GC m rfl
     exact ⟨fun vs H Q E ⟨n,e,h⟩=>by cases e;exact G.1 vs H Q E h,fun a1 a2 a3 a4 a5 a6 a7 a8 a9 a10 a11 a12 a13 ⟨n,e,h⟩=>by cases e;exact G.2 a1 a2 a3 a4 a5 a6 a7 a8 a9 a10 a11 a12 a13 h⟩
  refine DT.F.ok Gi (fun vs H Q E h=>?_) (fun cdv A outer s H vs Q E hr h=>?_)
  ·obtain ⟨p,dc,q,q',ys,ys',z,rfl,_⟩:=h
   rfl
  ·obtain ⟨p,dc,q,q',ys,ys',z,rfl,hz,D,hq,hq',ne,ne',l,l',nm,nm',k⟩:=h
   have hr1:bR 1 _:=hr.mono (by lia)
   have hr4:bR 4 _:=hr.mono (by lia)
   refine ⟨_,(ak (bc (i:=4) Gi.nd rfl (.inl rfl) (bO DP GP hr1 (aa (pv 0) (aa aA aj))))
    (ak (a_ (PW.pt (gJ (aH jO (pv 1) aA (aN _)) (fJ (aH bz (pv 4) aA (aN _))))) (aB (aJ (bO DL GL hr4 (aa (pv 0) (aa (pv 2) (aa (pv 3) aj)))))) aL)
    (ak (a_ (aH bz (pv 4) aA (aN _)) (aB (aJ (bu (aa aM (aa (bO DT GT hr (aa (pv 0) (aa (bh dM (pv 1) aA) (aa (pv 2) (aa (pv 3) aj))))) aj))))) aL)
    (ak (bc (i:=5) Gi.nd rfl (.inl rfl) (aZ cF (bM (aa aM (aa aM aj))) (bh iz (pv 4) aA) (fun _ _=>rfl)))
    (aB (aJ (bu (aa (pv 5) (aa (bO DT GT hr (aa (pv 0) (aa (bh dM (pv 1) aA) (aa (pv 2) (aa (pv 3) aj))))) (aa (bO DT GT hr (aa (pv 0) (aa (bh dM (pv 1) aA) (aa (pv 2) (aa (pv 3) aj))))) aj)))))))))),?_⟩
   refine ⟨_,rfl,p,dc,_,rfl,D,by decide,by decide,fun w1 H1 w0 w5 D1 b1=>?_⟩
   have hq1:=D.seq b1 hq
   have hq1':=D.seq b1 hq'
   have leaf:mz (Bp K) [] E0 (ig (kh 0) (ig (kh 2) (ig (kh 3) uH))) [some (.ref p),some (.int z),some (.ref q),some (.ref q'),some (.int w1),none] H1 Q:=
    ⟨_,rfl,_,rfl,_,rfl,p,dc,q,q',ys,ys',rfl,D1,hq1,hq1',ne,ne',l,l',nm,nm',fun x f r H' rp lf D' b'=>k x _ H' rp (lf.tr.mono (by lia)) D' (b1.trans b')⟩
   refine ⟨_,rfl,_,_,rfl,rfl,_,rfl,dC (fun _=>b_ rfl leaf) (fun hz2=>⟨_,rfl,rfl,_,rfl,dC (fun _=>leaf) (fun _=>?_)⟩)⟩
   have hz2:¬ z<2:=by simpa using hz2
   obtain ⟨j,rfl⟩:∃ j,m=j+1:=⟨m-1,by lia⟩
   refine ⟨_,rfl,rfl,_,rfl,dC (fun _=>?_) (fun _=>?_)⟩
   ·refine ⟨_,rfl,_,rfl,_,_,rfl,rfl,_,rfl,_,rfl,j,rfl,p,dc,q,q',ys,ys',z-1,rfl,by lia,D1,hq1,hq1',ne,ne',l,l',nm,nm',fun x d H2 rx tx D2 b2=>⟨(by ext),fun t ht=>?_⟩⟩
    exact k _ _ _ (.tup (bD.of au) (.cons (.str _) (.cons (rx.same (aC.new ht)) .nil))) tx.one (D2.new ht) ((b1.trans b2).trans (bW.new ht))
   ·refine ⟨(by ext),fun l0 hl0=>⟨_,rfl,_,_,rfl,rfl,(by show (0:Int)<2;decide),?_⟩⟩
    have b2:bW p H (upd H1 l0 (.lst [.str "and",.str "or"])):=b1.trans (bW.new hl0)
    obtain ⟨i,hj,ej⟩:∃ i:Nat,i<2/\w1 % 2=i:=⟨(w1 % 2).toNat,by lia,by lia⟩
    have D2:=D1.new (o:=.lst [.str "and",.str "or"]) hl0
    obtain ⟨f0,hf,ef⟩:∃ f0:Str,(f0 = "and"∨f0 = "or")/\([V.str "and",V.str "or"])[i]?=some (.str f0):=by
     match i,hj with
     |0,_=>exact ⟨"and",.inl rfl,rfl⟩
     |1,_=>exact ⟨"or",.inr rfl,rfl⟩
    refine ⟨l0,_,_,_,rfl,rfl,bF.of au,(by rw [ej];exact aF ef),_,rfl,?_⟩
    have hq2:=D.seq b2 hq
    have hq2':=D.seq b2 hq'
    refine ⟨_,rfl,_,rfl,_,_,rfl,rfl,_,rfl,_,rfl,j,rfl,p,dc,q,q',ys,ys',z-1,rfl,by lia,D2,hq2,hq2',ne,ne',l,l',nm,nm',fun x d H3 rx tx D3 b3=>?_⟩
    have b3':=b2.trans b3
    refine ⟨_,rfl,_,rfl,_,_,rfl,rfl,_,rfl,_,rfl,j,rfl,p,dc,q,q',ys,ys',z-1,rfl,by lia,D3,D.seq b3' hq,D.seq b3' hq',ne,ne',l,l',nm,nm',fun x2 d2 H4 rx2 tx2 D4 b4=>⟨(by ext),fun t ht=>?_⟩⟩
    exact k _ _ _ (.tup (bD.of au) (.cons (.str _) (.cons ((D3.rep b4 rx).same (aC.new ht)) (.cons (rx2.same (aC.new ht)) .nil)))) (tx.two hf tx2) (D4.new ht) ((b3'.trans b4).trans (bW.new ht))
 induction n with
 |zero=>exact main 0 (fun n e=>by lia)
 |succ n ih=>exact main (n+1) (fun n' e=>by cases e;exact ih)
theorem Bl (a b:Str):rP (.str a) (.str b)=decide (a=b):=by
 rw [Bool.eq_iff_iff];simp [rP]
theorem Bk (f a b:Str):inV (.str f) [.str a,.str b]=decide (f=a∨f=b):=by
 rw [Bool.eq_iff_iff]
 simp [inV,rP]
 constructor <;> (rintro (h|h) <;> simp [h])
theorem Gy (f a b c:Str):inV (.str f) [.str a,.str b,.str c]=decide (f=a∨f=b∨f=c):=by
 rw [Bool.eq_iff_iff]
 simp [inV,rP]
 constructor <;> (rintro (h|h|h) <;> simp [h])
theorem vy (f:Str):decide (f = "not"∨f = "and"∨f = "or")=(arity f).isSome:=by
 unfold arity
 by_cases h1:f = "not"
 ·simp [h1]
 ·by_cases h2:f = "and"
  ·subst h2;decide +kernel
  ·by_cases h3:f = "or"
   ·subst h3;decide +kernel
   ·simp [h1,h2,h3]
theorem oF (td:TD d):bQ d=true->bT d≤bI d:=by
 induction td with
 |str a b=>intro h;cases h
 |int a b=>intro h;cases h
 |nil=>intro h;cases h
 | @node f r a b c tr ih=>
   intro sh
   have e:bT (.tuple (.str f::r))=if (arity f).isSome=true then 1+dh r else 1:=rfl
   have ep:bI (.tuple (.str f::r))=max 0 (bB r)+1:=rfl
   rcases iZ (n:=bT (.tuple (.str f::r))) sh (by lia) with ⟨ha,_⟩|N
   ·rw [e,ha,ep]
    show 1≤_
    lia
   ·have:∀ l:List PyData,(∀ d∈l,d∈r)->dh l≤bB l:=by
     intro l
     induction l with
     |nil=>intro _;exact Nat.zero_le _
     | cons d l ihl=>
       intro hm
       have md:=hm d (List.mem_cons_self ..)
       have h1:=ih d md (N.sh d md)
       have h2:=ihl (fun d m=>hm d (List.mem_cons_of_mem _ m))
       show max (bT d) (dh l)≤max (bI d) (bB l)
       lia
    have:=this r (fun _ m=>m)
    rw [e,N.ar,ep]
    show 1+dh r≤_
    lia
noncomputable def Q0:PyData->Bool
 |.str _=>true
 |_=>false
noncomputable def isI:PyData->Bool
 |.int _=>true
 |_=>false
noncomputable def O5:PyData->Bool
 |.tuple _=>true
 |_=>false
theorem CZ (td:TD d):kitOne K (.type (Fv d)) (.type "str")=some (Q0 d):=by cases td <;> rfl
theorem Lx (td:TD d):kitOne K (.type (Fv d)) (.type "int")=some (isI d):=by cases td <;> rfl
theorem Li (td:TD d):kitOne K (.type (Fv d)) (.type "tuple")=some (O5 d):=by cases td <;> rfl
noncomputable def K_ (K:Frag):Sp:=fun vs H Q _=>∃ (a:Addr) (f:Str) (r:List PyData),vs=[.ref a]/\Rep K H (.ref a) (.tuple (.str f::r))/\TD (.tuple (.str f::r))/\∀ H',aC H H'->Q (.bl (fU f r)) H'
theorem NZ:aU ["_law_test_here"] ["_law_test_here"] (aD (top 68)):=by ext
theorem Kv (F:fc K "_law_leaf_ok" "_law_leaf_ok" (top 68) f fd) (T:Txt K mg) (DN:cj K mg "_law_is_name" (top 60) ["_law_text"] fN fdN):aQ P w K mg base bC 2 f fd ["_law_test_here"] (K_ K):=by
 have GN:aQ P w K mg base bC 1 fN fdN ["_law_text"] yW:=BK DN.F T
 refine F.ok NZ (by ext) fun cdv A outer s H vs Q E hr h=>?_
 obtain ⟨a,f,r,rfl,rd,td,k⟩:=h
 refine ⟨_,(ak (a_ (aH bz (aZ aY (pv 0) aA (fun _ _=>rfl)) aM (aN _)) (aB (aJ (bN bz (aG aO (by rfl) T.len bH (aa (pv 0) aj)) aA (aN _)))) aL)
  (ak (a_ (aH bz (aZ aY (pv 0) aA (fun _ _=>rfl)) aM (aN _)) (aB (aJ (cA (bN bz (aG aO (by rfl) T.len bH (aa (pv 0) aj)) aA (aN _)) (cA (aG bK (by rfl) T.isinstance aV (aa (aZ aY (pv 0) aA (fun _ _=>rfl)) (aa (cP rfl T.str nM) aj))) (dI (bO DN GN hr (aa (aZ aY (pv 0) aA (fun _ _=>rfl)) aj))))))) aL)
  (ak (a_ (PW.pt (gJ (aH gU (aZ aY (pv 0) aA (fun _ _=>rfl)) (bu (aa aM (aa aM aj))) rfl) (fJ (aH mC (aG aO (by rfl) T.len bH (aa (pv 0) aj)) aA (aN _))))) (aB (aJ cY)) aL)
  (ak (a_ (PW.pt (gJ (cN (bU (aG bK (by rfl) T.isinstance aV (aa (aZ aY (pv 0) aA (fun _ _=>rfl)) (aa (cP rfl T.str nM) aj))))) (fJ (cN (bU (bO DN GN hr (aa (aZ aY (pv 0) aA (fun _ _=>rfl)) aj))))))) (aB (aJ cY)) aL)
  (aB (aJ (cA (aG bK (by rfl) T.isinstance aV (aa (aZ aY (pv 0) aA (fun _ _=>rfl)) (aa (cP rfl T.int jX) aj))) (dI (j7 gO gO (jL iu aA) (aZ aY (pv 0) aA (fun _ _=>rfl)) aA))))))))),?_⟩
 cases td with
 |node af lf nr tr=>
 cases rd with
 |@tup _ xs _ sq rs=>
 obtain ⟨x0,ys,rfl⟩:∃ x0 ys,xs=x0::ys:=by cases rs;exact ⟨_,_,rfl⟩
 obtain ⟨r0,rt⟩:Rep K H x0 (.str f)/\bj K H ys r:=by cases rs with|cons a b=>exact ⟨a,b⟩
 cases r0
 have hl:=rt.length
 refine ⟨_,rfl,a,_,_,_,rfl,rfl,sq,aF (j:=0) rfl,rfl,_,rfl,?_⟩
 unfold fU at k
 by_cases h1:f = "all"
 ·subst h1
  rw [if_pos rfl] at k
  refine b_ (by simp) ⟨_,rfl,a,_,rfl,.inr sq,rfl,?_⟩
  have e:decide (V.int ((V.str "all"::ys).length:Nat)=V.int 1)=r.isEmpty:=by
   rw [Bool.eq_iff_iff,decide_eq_true_eq,List.isEmpty_iff,List.length_cons,V.int.injEq]
   constructor
   ·intro h
    exact List.length_eq_zero_iff.mp (by lia)
   ·rintro rfl
    simp at hl
    simp [hl]
  rw [e]
  exact k _ (aC.refl _)
 ·rw [if_neg h1] at k
  refine bJ (by simp [h1]) ⟨_,rfl,a,_,_,_,rfl,rfl,sq,aF (j:=0) rfl,rfl,_,rfl,?_⟩
  by_cases h2:f = "is"
  ·subst h2
   rw [if_pos rfl] at k
   refine b_ (by simp) ⟨_,rfl,a,_,rfl,.inr sq,rfl,_,rfl,?_⟩
   match r,ys,rt,k,hl,tr with
   |[],[],_,k,_,_=>exact bJ (by simp) (k _ (aC.refl _))
   | [d],[y],.cons ry .nil,k,_,tr=>
     have tdd:=tr d (List.mem_cons_self ..)
     refine b_ (by simp) ⟨_,rfl,a,_,_,_,rfl,rfl,sq,aF (j:=1) rfl,_,_,_,_,rfl,ry,CZ tdd,_,rfl,?_⟩
     cases tdd with
     | @str z az lz=>
       cases ry
       exact b_ rfl ⟨_,rfl,a,_,_,_,rfl,rfl,sq,aF (j:=1) rfl,z,rfl,by lia,az,fun H' s'=>k _ s'⟩
     |int _ _=>exact bJ rfl (k _ (aC.refl _))
     |nil=>exact bJ rfl (k _ (aC.refl _))
     |node _ _ _ _=>exact bJ rfl (k _ (aC.refl _))
   |_::_::_,_::_::_,_,k,_,_=>exact bJ (by simp;lia) (k _ (aC.refl _))
  ·rw [if_neg h2] at k
   refine bJ (by simp [h2]) ⟨_,rfl,a,_,_,_,rfl,rfl,sq,aF (j:=0) rfl,(by ext),fun t ht=>?_⟩
   have s1:aC H (upd H t (.tup [.str "less",.str "same"])):=aC.new ht
   refine ⟨t,_,rfl,.inr (bD.of au),rfl,rfl,_,rfl,?_⟩
   rw [Bk]
   have sq1:=s1.tup sq
   have rt1:=rt.same s1
   generalize upd H t (.tup [.str "less",.str "same"])=H1 at s1 sq1 rt1 ⊢
   by_cases h3:f = "less"∨f = "same"
   ·rw [decide_eq_true h3,Bool.true_and] at k
    refine bJ (by simp [h3]) ⟨_,rfl,a,_,rfl,.inr sq1,rfl,_,rfl,?_⟩
    match r,ys,rt1,k,hl,tr with
    |[],[],_,k,_,_=>exact b_ (by simp) (k _ s1)
    |[d],[y],_,k,_,_=>exact b_ (by simp) (k _ s1)
    | [d,d2],[y,y2],.cons ry (.cons ry2 .nil),k,_,tr=>
      have k:∀ H',aC H H'->Q (.bl (jh d && mQ d2)) H':=k
      have tdd:=tr d (List.mem_cons_self ..)
      have tdd2:=tr d2 (List.mem_cons_of_mem _ (List.mem_cons_self ..))
      refine bJ (by simp) ⟨_,rfl,a,_,_,_,rfl,rfl,sq1,aF (j:=1) rfl,_,_,_,_,rfl,ry,CZ tdd,_,rfl,?_⟩
      cases tdd with
      | @str z az lz=>
        cases ry
        refine bJ rfl ⟨_,rfl,a,_,_,_,rfl,rfl,sq1,aF (j:=1) rfl,z,rfl,by lia,az,fun H2 s2=>⟨_,rfl,?_⟩⟩
        have sq2:=s2.tup sq1
        have ry3:=ry2.same s2
        have k:∀ H',aC H H'->Q (.bl (nameB z && mQ d2)) H':=k
        cases hw:nameB z with
        |false=>rw [hw] at k;exact b_ rfl (k _ (s1.trans s2))
        | true=>
          rw [hw,Bool.true_and] at k
          refine bJ rfl ⟨_,rfl,a,_,_,_,rfl,rfl,sq2,aF (j:=2) rfl,_,_,_,_,rfl,ry3,Lx tdd2,_,rfl,?_⟩
          have k:=k _ (s1.trans s2)
          cases tdd2 with
          | @int i i1 i2=>
            cases ry3
            refine b_ rfl ?_
            refine ⟨_,rfl,_,rfl,a,_,_,_,rfl,rfl,sq2,aF (j:=2) rfl,_,_,rfl,rfl,_,rfl,?_⟩
            have k:Q (.bl (decide (-999999≤i) && decide (i≤999999))) H2:=k
            by_cases q1:-999999≤i
            ·rw [decide_eq_true q1,Bool.true_and] at k
             exact b_ (by simpa using q1) ⟨_,_,rfl,rfl,k⟩
            ·rw [decide_eq_false q1,Bool.false_and] at k
             exact bJ (by simpa using q1) k
          |str _ _=>exact bJ rfl k
          |nil=>exact bJ rfl k
          |node _ _ _ _=>exact bJ rfl k
      |int _ _=>exact b_ rfl (k _ s1)
      |nil=>exact b_ rfl (k _ s1)
      |node _ _ _ _=>exact b_ rfl (k _ s1)
    |_::_::_::_,_::_::_::_,_,k,_,_=>exact b_ (by simp;lia) (k _ s1)
   ·rw [decide_eq_false h3,Bool.false_and] at k
    exact b_ (by simp [h3]) (k _ s1)
theorem kO (h:bI (.tuple (.str f::r))≤n+1) (m:d∈r):bI d≤n:=by
 have:=j9 m
 have h:max 0 (bB r)+1≤n+1:=h
 lia
theorem zR (sh:bQ d=true) (h:bT d≤n):cC d+1≤2 ^ n:=by
 have:=uq n d
 rw [uh,if_pos ⟨sh,h⟩] at this
 exact this
theorem wQ (h1:1≤r.length/\r.length≤2) (hb:b∈r.map fun d=>((bT d:Nat):Int)) (hm:∀ x∈r.map fun d=>((bT d:Nat):Int),x≤b):b=((dh r:Nat):Int):=by
 match r,h1 with
 | [x],_=>
   have e:dh [x]=max (bT x) 0:=rfl
   simp at hb
   rw [hb,e];lia
 | [x,y],_=>
   have e:dh [x,y]=max (bT x) (max (bT y) 0):=rfl
   have q1:=hm (bT x) (by simp)
   have q2:=hm (bT y) (by simp)
   simp at hb
   rw [e]
   rcases hb with rfl|rfl <;> lia
 |[],h=>exact absurd h.1 (by simp)
 |_::_::_::_,h=>exact absurd h.2 (by simp)
noncomputable def zg (K:Frag) (n:Nat):Sp:=fun vs H Q _=>∃ (x:V) (d:PyData),vs=[x]/\Rep K H x d/\TD d/\bI d≤n/\∀ H',aC H H'->Q (.bl (bQ d)) H'
theorem Pn:aU ["_law_test_here"] ["_law_test_here"] (aD (top 69)):=by ext
theorem Ln (DS:cj K mg "_law_shape_ok" (top 69) ["_law_test_here"] f fd) (T:Txt K mg) (DN:cj K mg "_law_is_name" (top 60) ["_law_text"] fN fdN) (DL:cj K mg "_law_leaf_ok" (top 68) ["_law_test_here"] fL fdL) (n:Nat):aQ P w K mg base bC (n+3) f fd ["_law_test_here"] (zg K n):=by
 have GL:aQ P w K mg base bC 2 fL fdL ["_law_test_here"] (K_ K):=Kv DL.F T DN
 have main:∀ m:Nat,(∀ j,j+1=m->aQ P w K mg base bC (j+3) f fd ["_law_test_here"] (zg K j))->aQ P w K mg base bC (m+3) f fd ["_law_test_here"] (zg K m):=by
  intro m GC
  have GS:aQ P w K mg base bC (m+2) f fd ["_law_test_here"] (fun vs H Q E=>∃ j,j+1=m/\zg K j vs H Q E):=by
   match m,GC with
   |0,_=>exact ⟨fun _ _ _ _ ⟨n,e,_⟩=>by lia,fun _ _ _ _ _ _ _ _ _ _ _ _ _ ⟨n,e,_⟩=>by lia⟩
   | m+1,GC=>
     have G:=GC m rfl
     exact ⟨fun vs H Q E ⟨n,e,h⟩=>by cases e;exact G.1 vs H Q E h,fun a1 a2 a3 a4 a5 a6 a7 a8 a9 a10 a11 a12 a13 ⟨n,e,h⟩=>by cases e;exact G.2 a1 a2 a3 a4 a5 a6 a7 a8 a9 a10 a11 a12 a13 h⟩
  refine DS.F.ok Pn (fun vs H Q E h=>?_) (fun cdv A outer s H vs Q E hr h=>?_)
  ·obtain ⟨x,d,rfl,_⟩:=h
   rfl
  ·obtain ⟨x,d,rfl,rd,td,hd,k⟩:=h
   have hr2:bR 2 _:=hr.mono (by lia)
   refine ⟨_,(ak (a_ (PW.pt (gJ (cN (bU (aG bK (by rfl) T.isinstance aV (aa (pv 0) (aa (cP rfl T.tuple fu) aj))))) (fJ (aH bz (aG aO (by rfl) T.len bH (aa (pv 0) aj)) aA (aN _))))) (aB (aJ cY)) aL)
    (ak (a_ (aH dX (aZ aY (pv 0) aA (fun _ _=>rfl)) (bu (aa aM (aa aM aj))) rfl) (aB (aJ (cA (bN bz (aG aO (by rfl) T.len bH (aa (pv 0) aj)) aA (aN _)) (cA (bO DS GS hr (aa (aZ aY (pv 0) aA (fun _ _=>rfl)) aj)) (dI (bO DS GS hr (aa (aZ aY (pv 0) aA (fun _ _=>rfl)) aj))))))) aL)
    (ak (a_ (aH bz (aZ aY (pv 0) aA (fun _ _=>rfl)) aM (aN _)) (aB (aJ (cA (bN bz (aG aO (by rfl) T.len bH (aa (pv 0) aj)) aA (aN _)) (dI (bO DS GS hr (aa (aZ aY (pv 0) aA (fun _ _=>rfl)) aj)))))) aL)
    (aB (aJ (bO DL GL hr2 (aa (pv 0) aj))))))),?_⟩
   refine ⟨_,rfl,_,_,_,_,rfl,rd,Li td,_,rfl,?_⟩
   cases td with
   |str a l=>exact b_ rfl (b_ rfl (k _ (aC.refl _)))
   |int a b=>exact b_ rfl (b_ rfl (k _ (aC.refl _)))
   | nil=>
     cases rd with
     |@tup a xs _ sq rs=>
     cases rs
     exact bJ rfl ⟨_,rfl,a,_,rfl,.inr sq,rfl,_,rfl,b_ (by simp) (k _ (aC.refl _))⟩
   |@node f r af lf nr tr=>
   obtain ⟨n,rfl⟩:∃ n,m=n+1:=⟨m-1,by have h:max 0 (bB r)+1≤m:=hd;lia⟩
   have rd0:=rd
   cases rd with
   |@tup a xs _ sq rs=>
   obtain ⟨x0,ys,rfl⟩:∃ x0 ys,xs=x0::ys:=by cases rs;exact ⟨_,_,rfl⟩
   obtain ⟨r0,rt⟩:Rep K H x0 (.str f)/\bj K H ys r:=by cases rs with|cons a b=>exact ⟨a,b⟩
   cases r0
   have hl:=rt.length
   refine bJ rfl ⟨_,rfl,a,_,rfl,.inr sq,rfl,_,rfl,bJ (by simp;lia) ?_⟩
   refine ⟨_,rfl,a,_,_,_,rfl,rfl,sq,aF (j:=0) rfl,(by ext),fun t ht=>?_⟩
   have s1:aC H (upd H t (.tup [.str "and",.str "or"])):=aC.new ht
   refine ⟨t,_,rfl,.inr (bD.of au),rfl,rfl,_,rfl,?_⟩
   rw [Bk]
   have sq1:=s1.tup sq
   have rt1:=rt.same s1
   have rd1:=rd0.same s1
   generalize upd H t (.tup [.str "and",.str "or"])=H1 at s1 sq1 rt1 rd1 ⊢
   unfold bQ at k
   by_cases h1:f = "and"∨f = "or"
   ·rw [if_pos h1] at k
    refine b_ (by simp [h1]) ⟨_,rfl,a,_,rfl,.inr sq1,rfl,_,rfl,?_⟩
    match r,ys,rt1,k,hl,tr,hd with
    |[],[],_,k,_,_,_=>exact bJ (by simp) (k _ s1)
    |[_],[_],_,k,_,_,_=>exact bJ (by simp) (k _ s1)
    | [d,e],[y,z],.cons ry (.cons rz .nil),k,_,tr,hd=>
      have k:∀ H',aC H H'->Q (.bl (true && (bQ d && (bQ e && true)))) H':=k
      refine b_ (by simp) ⟨_,rfl,a,_,_,_,rfl,rfl,sq1,aF (j:=1) rfl,n,rfl,y,d,rfl,ry,tr d (by simp),kO hd (by simp),fun H2 s2=>⟨_,rfl,?_⟩⟩
      rw [Bool.true_and,Bool.and_true] at k
      cases hs:bQ d with
      |false=>rw [hs] at k;exact bJ rfl (k _ (s1.trans s2))
      | true=>
        rw [hs,Bool.true_and] at k
        exact b_ rfl ⟨_,rfl,a,_,_,_,rfl,rfl,s2.tup sq1,aF (j:=2) rfl,n,rfl,z,e,rfl,rz.same s2,tr e (by simp),kO hd (by simp),fun H3 s3=>k _ ((s1.trans s2).trans s3)⟩
    |_::_::_::_,_::_::_::_,_,k,_,_,_=>exact bJ (by simp;lia) (k _ s1)
   ·rw [if_neg h1] at k
    refine bJ (by simp [h1]) ⟨_,rfl,a,_,_,_,rfl,rfl,sq1,aF (j:=0) rfl,rfl,_,rfl,?_⟩
    by_cases h2:f = "not"
    ·rw [if_pos h2] at k
     refine b_ (by simp [h2]) ⟨_,rfl,a,_,rfl,.inr sq1,rfl,_,rfl,?_⟩
     match r,ys,rt1,k,hl,tr,hd with
     |[],[],_,k,_,_,_=>exact bJ (by simp) (k _ s1)
     | [d],[y],.cons ry .nil,k,_,tr,hd=>
       have k:∀ H',aC H H'->Q (.bl (true && (bQ d && true))) H':=k
       rw [Bool.true_and,Bool.and_true] at k
       exact b_ (by simp) ⟨_,rfl,a,_,_,_,rfl,rfl,sq1,aF (j:=1) rfl,n,rfl,y,d,rfl,ry,tr d (by simp),kO hd (by simp),fun H2 s2=>k _ (s1.trans s2)⟩
     |_::_::_,_::_::_,_,k,_,_,_=>exact bJ (by simp;lia) (k _ s1)
    ·rw [if_neg h2] at k
     exact bJ (by simp [h2]) ⟨_,rfl,a,f,r,rfl,rd1,.node af lf nr tr,fun H2 s2=>k _ (s1.trans s2)⟩
 induction n with
 |zero=>exact main 0 (fun n e=>by lia)
 |succ n ih=>exact main (n+1) (fun n' e=>by cases e;exact ih)
noncomputable def tO (K:Frag) (g:PyData->Nat) (n:Nat):Sp:=fun vs H Q _=>∃ (x:V) (d:PyData),vs=[x]/\Rep K H x d/\TD d/\bQ d=true/\bT d≤n/\n≤10/\∀ H',aC H H'->Q (.int (g d:Nat)) H'
theorem Nf:aU ["_law_test_here"] ["_law_test_here"] (aD (top 65)):=by ext
theorem Ov:aU ["_law_test_here"] ["_law_test_here"] (aD (top 66)):=by ext
theorem Ej (DL:cj K mg "_law_parts" (top 65) ["_law_test_here"] f fd) (hsum:mg "sum" = none) (n:Nat):aQ P w K mg base bC n f fd ["_law_test_here"] (tO K cC n):=by
 refine Nat.rec (motive:=fun n=>aQ P w K mg base bC n f fd ["_law_test_here"] (tO K cC n)) ⟨fun _ _ _ _ h=>?_,fun _ _ _ _ _ _ _ _ _ _ _ _ _ h=>?_⟩ (fun n GL=>?_) n
 ·obtain ⟨x,d,_,_,_,_,hd,_⟩:=h
  exact absurd (Nat.le_trans (eF d) hd) (by decide)
 ·obtain ⟨x,d,_,_,_,_,hd,_⟩:=h
  exact absurd (Nat.le_trans (eF d) hd) (by decide)
 refine DL.F.ok Nf (by ext) fun cdv A outer s H vs Q E hr h=>?_
 obtain ⟨x,d,rfl,rd,td,sh,hd,hn,k⟩:=h
 refine ⟨_,(ak (a_ (aH gU (aZ aY (pv 0) aA (fun _ _=>rfl)) (bu (aa aM (aa aM (aa aM aj)))) rfl) (aB (aJ aA)) aL)
  (aB (aJ (bh cH aA (aG (pX rfl) (by rfl) hsum yw (aa (gR (g:=bG 0) (own:=["_law_part"]) (js:=[]) (N':=["_law_part"]) (bL.of (osc:=aD (top 65)) (N:=["_law_test_here"]) rfl rfl (by ext)) rfl (iB (cG gn (pv 0) (cR aA) cW)) (fun _ _ _ _ _=>(aK (i:=0) (show List.Nodup (["_law_part"]:List Str) by ext) rfl (.inl rfl) (.inr rfl))) (fun _ _ _ _ _=>dF) (fun _ _ _ _ _=>jC GL hr rfl DL.mg DL.F.kp DL.b .nil lC (aa (pv 0) aj))) aj)))))),?_⟩
 obtain ⟨f,r,rfl⟩:=dj td sh
 cases td with
 |node af lf nr tr=>
 cases rd with
 |@tup a xs _ sq rs=>
 obtain ⟨x0,ys,rfl⟩:∃ x0 ys,xs=x0::ys:=by cases rs;exact ⟨_,_,rfl⟩
 obtain ⟨r0,rt⟩:Rep K H x0 (.str f)/\bj K H ys r:=by cases rs with|cons a b=>exact ⟨a,b⟩
 cases r0
 have hl:=rt.length
 refine ⟨_,rfl,a,_,_,_,rfl,rfl,sq,aF (j:=0) rfl,(by ext),fun t ht=>?_⟩
 have s0:aC H (upd H t (.tup [.str "not",.str "and",.str "or"])):=aC.new ht
 refine ⟨t,_,rfl,.inr (bD.of au),rfl,rfl,_,rfl,?_⟩
 rw [Gy,vy]
 have sq0:=s0.tup sq
 have rt0:=rt.same s0
 generalize upd H t (.tup [.str "not",.str "and",.str "or"])=H0 at s0 sq0 rt0 ⊢
 have e:cC (.tuple (.str f::r))=if (arity f).isSome=true then 1+eX r else 1:=rfl
 rw [e] at k
 rcases iZ sh hd with ⟨ha,hlf⟩|N
 ·rw [ha] at k ⊢
  exact b_ rfl (k _ s0)
 ·rw [N.ar] at k ⊢
  have k:∀ H',aC H H'->Q (.int (1+eX r:Nat)) H':=k
  have a2:=lK N.ar
  refine bJ rfl ⟨_,rfl,1,rfl,a,_,rfl,sq0,(fun e=>?_),fun p hp=>?_⟩
  ·rw [nC] at e
   have:=congrArg List.length e
   simp at this
  ·rw [nC]
   have sp:bD K (upd H0 p (.tup ys)) p ys:=bD.of au
   have s1:aC H0 (upd H0 p (.tup ys)):=aC.new hp
   generalize upd H0 p (.tup ys)=H1 at sp s1 ⊢
   refine ⟨p,rfl,⟨_,sp⟩,?_⟩
   refine jn (K:=K) (a:=p) (xs:=ys) (fun i zs σ' H'=>(∃ v,σ'=[v])/\aC H1 H'/\zs=((r.take i).map fun d=>V.int (cC d:Nat))) (Nat.le_trans (show ys.length≤20 by lia) (by decide)) ⟨⟨none,rfl⟩,aC.refl _,rfl⟩ (fun i zs σ' H' _ ⟨_,s2,_⟩=>s2.tup sp) ?_ ?_
   ·rintro i y zs σ' H2 hy hzs ⟨⟨v,rfl⟩,s2,rfl⟩ N' hN
    obtain ⟨d,hd,ry⟩:=rt0.get' hy
    have me:=List.mem_of_getElem? hd
    refine ⟨_,rfl,y,d,rfl,ry.same (s1.trans s2),tr d me,N.sh d me,N.de d me,by lia,fun H3 s3=>?_⟩
    exact hN _ _ _ (by rw [List.length_append,hzs];rfl) ⟨⟨_,rfl⟩,s2.trans s3,by rw [List.take_add_one,hd];simp⟩
   ·rintro zs σ' H2 hzs ⟨⟨v,rfl⟩,s2,rfl⟩
    rw [List.take_of_length_le (by lia)]
    have lr:(r.map fun d=>V.int (cC d:Nat)).length≤20:=by rw [List.length_map];lia
    refine ⟨Nat.le_trans lr (by decide),fun q hq=>?_⟩
    have s3:aC H (upd H2 q (.lst (r.map fun d=>V.int (cC d:Nat)))):=((s0.trans s1).trans s2).trans (aC.new hq)
    refine ⟨q,r.map fun d=>((cC d:Nat):Int),rfl,by rw [List.map_map];exact bF.of au,by rw [List.length_map];lia,fun x hx=>?_,_,_,rfl,rfl,?_⟩
    ·obtain ⟨d,md,rfl⟩:=List.mem_map.mp hx
     have:=zR (N.sh d md) (N.de d md)
     have p20:2 ^ n≤2 ^ 10:=Nat.pow_le_pow_right (by decide) (by lia)
     have:(2:Nat) ^ 10=1024:=by decide
     lia
    ·have es:(r.map cC).sum=eX r:=by
      clear k lr s3 hq
      have:∀ l:List PyData,(l.map cC).sum=eX l:=by
       intro l
       induction l with
       |nil=>rfl
       |cons d l ih=>rw [List.map_cons,List.sum_cons,ih];rfl
      exact this r
     rw [rR,es]
     have:=k _ s3
     rw [show ((1+eX r:Nat):Int)=1+((eX r:Nat):Int) by lia] at this
     exact this
theorem Jc (DL:cj K mg "_law_deep" (top 66) ["_law_test_here"] f fd) (hmax:mg "max" = none) (n:Nat):aQ P w K mg base bC n f fd ["_law_test_here"] (tO K bT n):=by
 refine Nat.rec (motive:=fun n=>aQ P w K mg base bC n f fd ["_law_test_here"] (tO K bT n)) ⟨fun _ _ _ _ h=>?_,fun _ _ _ _ _ _ _ _ _ _ _ _ _ h=>?_⟩ (fun n GL=>?_) n
 ·obtain ⟨x,d,_,_,_,_,hd,_⟩:=h
  exact absurd (Nat.le_trans (eF d) hd) (by decide)
 ·obtain ⟨x,d,_,_,_,_,hd,_⟩:=h
  exact absurd (Nat.le_trans (eF d) hd) (by decide)
 refine DL.F.ok Ov (by ext) fun cdv A outer s H vs Q E hr h=>?_
 obtain ⟨x,d,rfl,rd,td,sh,hd,hn,k⟩:=h
 refine ⟨_,(ak (a_ (aH gU (aZ aY (pv 0) aA (fun _ _=>rfl)) (bu (aa aM (aa aM (aa aM aj)))) rfl) (aB (aJ aA)) aL)
  (aB (aJ (bh cH aA (aG (vR rfl) (by rfl) hmax yJ (aa (gR (g:=bG 0) (own:=["_law_part"]) (js:=[]) (N':=["_law_part"]) (bL.of (osc:=aD (top 66)) (N:=["_law_test_here"]) rfl rfl (by ext)) rfl (iB (cG gn (pv 0) (cR aA) cW)) (fun _ _ _ _ _=>(aK (i:=0) (show List.Nodup (["_law_part"]:List Str) by ext) rfl (.inl rfl) (.inr rfl))) (fun _ _ _ _ _=>dF) (fun _ _ _ _ _=>jC GL hr rfl DL.mg DL.F.kp DL.b .nil lC (aa (pv 0) aj))) aj)))))),?_⟩
 obtain ⟨f,r,rfl⟩:=dj td sh
 cases td with
 |node af lf nr tr=>
 cases rd with
 |@tup a xs _ sq rs=>
 obtain ⟨x0,ys,rfl⟩:∃ x0 ys,xs=x0::ys:=by cases rs;exact ⟨_,_,rfl⟩
 obtain ⟨r0,rt⟩:Rep K H x0 (.str f)/\bj K H ys r:=by cases rs with|cons a b=>exact ⟨a,b⟩
 cases r0
 have hl:=rt.length
 refine ⟨_,rfl,a,_,_,_,rfl,rfl,sq,aF (j:=0) rfl,(by ext),fun t ht=>?_⟩
 have s0:aC H (upd H t (.tup [.str "not",.str "and",.str "or"])):=aC.new ht
 refine ⟨t,_,rfl,.inr (bD.of au),rfl,rfl,_,rfl,?_⟩
 rw [Gy,vy]
 have sq0:=s0.tup sq
 have rt0:=rt.same s0
 generalize upd H t (.tup [.str "not",.str "and",.str "or"])=H0 at s0 sq0 rt0 ⊢
 have e:bT (.tuple (.str f::r))=if (arity f).isSome=true then 1+dh r else 1:=rfl
 rw [e] at k
 rcases iZ sh hd with ⟨ha,hlf⟩|N
 ·rw [ha] at k ⊢
  exact b_ rfl (k _ s0)
 ·rw [N.ar] at k ⊢
  have k:∀ H',aC H H'->Q (.int (1+dh r:Nat)) H':=k
  have a2:=lK N.ar
  refine bJ rfl ⟨_,rfl,1,rfl,a,_,rfl,sq0,(fun e=>?_),fun p hp=>?_⟩
  ·rw [nC] at e
   have:=congrArg List.length e
   simp at this
  ·rw [nC]
   have sp:bD K (upd H0 p (.tup ys)) p ys:=bD.of au
   have s1:aC H0 (upd H0 p (.tup ys)):=aC.new hp
   generalize upd H0 p (.tup ys)=H1 at sp s1 ⊢
   refine ⟨p,rfl,⟨_,sp⟩,?_⟩
   refine jn (K:=K) (a:=p) (xs:=ys) (fun i zs σ' H'=>(∃ v,σ'=[v])/\aC H1 H'/\zs=((r.take i).map fun d=>V.int (bT d:Nat))) (Nat.le_trans (show ys.length≤20 by lia) (by decide)) ⟨⟨none,rfl⟩,aC.refl _,rfl⟩ (fun i zs σ' H' _ ⟨_,s2,_⟩=>s2.tup sp) ?_ ?_
   ·rintro i y zs σ' H2 hy hzs ⟨⟨v,rfl⟩,s2,rfl⟩ N' hN
    obtain ⟨d,hd,ry⟩:=rt0.get' hy
    have me:=List.mem_of_getElem? hd
    refine ⟨_,rfl,y,d,rfl,ry.same (s1.trans s2),tr d me,N.sh d me,N.de d me,by lia,fun H3 s3=>?_⟩
    exact hN _ _ _ (by rw [List.length_append,hzs];rfl) ⟨⟨_,rfl⟩,s2.trans s3,by rw [List.take_add_one,hd];simp⟩
   ·rintro zs σ' H2 hzs ⟨⟨v,rfl⟩,s2,rfl⟩
    rw [List.take_of_length_le (by lia)]
    have lr:(r.map fun d=>V.int (bT d:Nat)).length≤20:=by rw [List.length_map];lia
    refine ⟨Nat.le_trans lr (by decide),fun q hq=>?_⟩
    have s3:aC H (upd H2 q (.lst (r.map fun d=>V.int (bT d:Nat)))):=((s0.trans s1).trans s2).trans (aC.new hq)
    refine ⟨q,r.map fun d=>((bT d:Nat):Int),rfl,by rw [List.map_map];exact bF.of au,?_,fun b hb hm=>⟨_,_,rfl,rfl,?_⟩⟩
    ·intro z
     have:=congrArg List.length z
     rw [List.length_map] at this
     simp at this
     rw [this] at a2
     simp at a2
    ·rw [wQ a2 hb hm]
     have:=k _ s3
     rw [show ((1+dh r:Nat):Int)=1+((dh r:Nat):Int) by lia] at this
     exact this
noncomputable def Iz (K:Frag):Sp:=fun vs H Q _=>∃ (x:V) (d:PyData),vs=[x]/\Rep K H x d/\TD d/\bI d≤8/\∀ H',aC H H'->Q (.bl (fH d)) H'
theorem Nt:aU ["_law_test_here"] ["_law_test_here"] (aD (top 70)):=by ext
theorem JN {f fS fD fP:Addr} {fd fdS fdD fdP:FuncData} (F:fc K "_law_test_ok" "_law_test_ok" (top 70) f fd) (DS:cj K mg "_law_shape_ok" (top 69) ["_law_test_here"] fS fdS) (GS:aQ P w K mg base bC 11 fS fdS ["_law_test_here"] (zg K 8))
 (DD:cj K mg "_law_deep" (top 66) ["_law_test_here"] fD fdD) (GD:aQ P w K mg base bC 8 fD fdD ["_law_test_here"] (tO K bT 8)) (DP:cj K mg "_law_parts" (top 65) ["_law_test_here"] fP fdP) (GP:aQ P w K mg base bC 8 fP fdP ["_law_test_here"] (tO K cC 8)):aQ P w K mg base bC 12 f fd ["_law_test_here"] (Iz K):=by
 refine F.ok Nt (by ext) fun cdv A outer s H vs Q E hr h=>?_
 obtain ⟨x,d,rfl,rd,td,hd,k⟩:=h
 have hr8:bR 8 _:=hr.mono (by decide)
 refine ⟨_,(aB (aJ (cA (bO DS GS hr (aa (pv 0) aj)) (cA (bN gO (bO DD GD hr8 (aa (pv 0) aj)) aA (aN _)) (dI (bN gO (bO DP GP hr8 (aa (pv 0) aj)) aA (aN _))))))),?_⟩
 refine ⟨_,rfl,x,d,rfl,rd,td,hd,fun H1 s1=>⟨_,rfl,?_⟩⟩
 unfold fH at k
 cases sh:bQ d with
 |false=>rw [sh] at k;exact bJ rfl (k _ s1)
 | true=>
   rw [sh,Bool.true_and] at k
   have dd:bT d≤8:=Nat.le_trans (oF td sh) hd
   refine b_ rfl ⟨_,rfl,x,d,rfl,rd.same s1,td,sh,dd,by decide,fun H2 s2=>⟨_,_,rfl,rfl,_,rfl,?_⟩⟩
   by_cases h5:bT d≤5
   ·rw [decide_eq_true h5,Bool.true_and] at k
    refine b_ (by simp;lia) ⟨_,rfl,x,d,rfl,rd.same (s1.trans s2),td,sh,dd,by decide,fun H3 s3=>⟨_,_,rfl,rfl,?_⟩⟩
    have:=k _ ((s1.trans s2).trans s3)
    rw [show decide (cC d≤15)=decide (((cC d:Nat):Int)≤15) by rw [Bool.eq_iff_iff];simp;lia] at this
    exact this
   ·rw [decide_eq_false h5,Bool.false_and] at k
    exact bJ (by simp;lia) (k _ (s1.trans s2))
noncomputable def cutD (xs:List PyData) (lo hi:Option Int):List PyData:=(xs.drop (HT.eG xs.length 0 lo)).take (HT.eG xs.length xs.length hi-HT.eG xs.length 0 lo)
theorem jw:∀ (n:Nat) {vs:List V} {ds:List PyData},bj K H vs ds->bj K H (vs.drop n) (ds.drop n)
 |0,_,_,h=>h
 |_+1,_,_,.nil=>.nil
 |n+1,_,_,.cons _ h=>jw n h
theorem lY:∀ (n:Nat) {vs:List V} {ds:List PyData},bj K H vs ds->bj K H (vs.take n) (ds.take n)
 |0,_,_,_=>.nil
 |_+1,_,_,.nil=>.nil
 |n+1,_,_,.cons a h=>.cons a (lY n h)
theorem mY (ra:Rep K H (.ref a) (.tuple ds)) (k:∀ v H',aC H H'->Rep K H' (.ref v) (.tuple (cutD ds lo hi))->Q (.ref v) H'):FZ K (.ref a) lo hi H Q:=by
 cases ra with
 |@tup _ xs _ sq rs=>
 have hl:=rs.length
 have rc:bj K H (jj xs lo hi) (cutD ds lo hi):=by
  unfold jj cutD
  rw [hl]
  exact lY _ (jw _ rs)
 refine ⟨a,xs,rfl,sq,fun e=>k a H (aC.refl _) ?_,fun p hp=>k p _ (aC.new hp) (.tup (bD.of au) (rc.same (aC.new hp)))⟩
 rw [e] at rc
 exact .tup sq rc
theorem nj (ra:Rep K H (.ref a) (.tuple ds)) (rb:Rep K H (.ref b) (.tuple es)) (l:ds.length+es.length≤1000) (k:∀ v H',aC H H'->Rep K H' (.ref v) (.tuple (ds++es))->Q (.ref v) H'):Eb K (.ref a) (.ref b) H Q:=by
 cases ra with
 |@tup _ xs _ sq rs=>
 cases rb with
 |@tup _ ys _ sq' rs'=>
 have hl:=rs.length
 have hl':=rs'.length
 have big:1000≤sizeLine:=by decide
 refine ⟨a,b,xs,ys,rfl,rfl,sq,sq',by lia,fun e=>k b H (aC.refl _) ?_,fun e=>k a H (aC.refl _) ?_,fun p hp=>k p _ (aC.new hp) (.tup (bD.of au) ((gB rs rs').same (aC.new hp)))⟩
 ·subst e
  cases rs
  exact .tup sq' rs'
 ·subst e
  cases rs'
  rw [List.append_nil]
  exact .tup sq rs
theorem xN (x:PyData) (r:List PyData):cutD (x::r) (some 1) none=r:=by
 simp [cutD,HT.eG]
theorem xq {ds:List PyData} {v:Int} {k:Nat} (h:v=(k:Nat)) (hk:k≤ds.length):cutD ds none (some v)=ds.take k:=by
 subst h
 unfold cutD
 rw [HT.qp,HT.lq,List.drop_zero,Nat.sub_zero,Nat.min_eq_left hk]
theorem wj {ds:List PyData} {v:Int} {k:Nat} (h:v=(k:Nat)) (hk:k≤ds.length):cutD ds (some v) none=ds.drop k:=by
 subst h
 unfold cutD
 rw [HT.qp,HT.lq,Nat.min_eq_left hk]
 exact List.take_of_length_le (by rw [List.length_drop];lia)
theorem xr (x:PyData) (r:List PyData):cutD (x::r) none (some (-1))=(x::r).take r.length:=by
 unfold cutD
 have e:HT.eG (x::r).length (x::r).length (some (-1))=r.length:=by
  unfold HT.eG
  simp only [List.length_cons]
  rw [if_pos (by decide)]
  lia
 rw [e,HT.lq,List.drop_zero,Nat.sub_zero]
theorem qe:∀ {l:List PyData},(∀ d∈l,bI d≤n)->bB l≤n
 |[],_=>Nat.zero_le _
 | d::l,h=>by
   have h1:=h d (List.mem_cons_self ..)
   have h2:=qe fun d m=>h d (List.mem_cons_of_mem _ m)
   show max (bI d) (bB l)≤n
   lia
noncomputable def Kf (K:Frag):Sp:=fun vs H Q _=>∃ (p dc q q':Addr) (ys ys':List Str),vs=[.ref p,.ref q,.ref q']/\Dr H p dc/\bF K H q (ys.map V.str)/\bF K H q' (ys'.map V.str)/\ys≠[]/\ys'≠[]/\ys.length≤100/\ys'.length≤100/\(∀ y∈ys,Nm y)/\(∀ y∈ys',Nm y)/\
 ∀ (x:V) (d:PyData) (H':Hp),Rep K H' x d->Tr 5 d->fH d=true->Dr H' p dc->bW p H H'->Q x H'
noncomputable abbrev Q9:List Str:=["_law_d","_law_names","_law_kinds","_law_test_here"]
theorem I_:aU Q9 ["_law_d","_law_names","_law_kinds"] (aD (top 67)):=by ext
theorem JP (F:fc K "_law_test" "_law_test" (top 67) f fd) (T:Txt K mg) (hsum:mg "sum" = none) (DP:cj K mg "_law_pick" (top 51) ["_law_d","_law_many"] fP fdP) (DO:cj K mg "_law_of" (top 52) ["_law_d","_law_things"] fO fdO) (DN:cj K mg "_law_number" (top 62) ["_law_d"] fN fdN)
 (DL:cj K mg "_law_leaf" (top 63) ["_law_d","_law_names","_law_kinds"] fL fdL) (DT:cj K mg "_law_tree" (top 64) ["_law_d","_law_deep_here","_law_names","_law_kinds"] fT fdT) (DA:cj K mg "_law_parts" (top 65) ["_law_test_here"] fA fdA):aQ P w K mg base bC 10 f fd ["_law_d","_law_names","_law_kinds"] (Kf K):=by
 have GP:aQ P w K mg base bC 1 fP fdP ["_law_d","_law_many"] d_:=dw DP.F T
 have GL:aQ P w K mg base bC 4 fL fdL ["_law_d","_law_names","_law_kinds"] (Bp K):=CW DL.F T DP DO DN
 have GT:aQ P w K mg base bC 9 fT fdT ["_law_d","_law_deep_here","_law_names","_law_kinds"] (Ah K 5):=JF DT T DP DO DN DL 4
 have GA:aQ P w K mg base bC 5 fA fdA ["_law_test_here"] (tO K cC 5):=Ej DA hsum 5
 refine F.ok I_ (by ext) fun cdv A outer s H vs Q E hr h=>?_
 obtain ⟨p,dc,q,q',ys,ys',rfl,D,hq,hq',ne,ne',l,l',nm,nm',k⟩:=h
 have hr1:bR 1 _:=hr.mono (by decide)
 have hr4:bR 4 _:=hr.mono (by decide)
 have hr5:bR 5 _:=hr.mono (by decide)
 refine ⟨_,(ak (bc (i:=3) I_.nd rfl (.inl rfl) (bO DT GT hr (aa (pv 0) (aa (bh cH aA (bO DP GP hr1 (aa (pv 0) (aa aA aj)))) (aa (pv 1) (aa (pv 2) aj))))))
  (aB (aJ (eN (aH jO (bO DA GA hr5 (aa (pv 3) aj)) aA (aN _)) (pv 3) (bu (aa aM (aa (bO DL GL hr4 (aa (pv 0) (aa (pv 1) (aa (pv 2) aj)))) aj))))))),?_⟩
 refine ⟨_,rfl,_,rfl,p,dc,_,rfl,D,by decide,by decide,fun r H1 r0 r1 D1 b1=>⟨_,_,rfl,rfl,_,rfl,_,rfl,?_⟩⟩
 refine ⟨p,dc,q,q',ys,ys',1+r,rfl,by lia,D1,D.seq b1 hq,D.seq b1 hq',ne,ne',l,l',nm,nm',fun x d H2 rx tx D2 b2=>?_⟩
 have de:bT d≤5:=Nat.le_trans (oF tx.td tx.sh) tx.dp
 refine ⟨_,rfl,x,d,rfl,rx,tx.td,tx.sh,de,by decide,fun H3 s3=>⟨_,_,rfl,rfl,_,rfl,dC (fun h=>?_) (fun h=>?_)⟩⟩
 ·have h:cC d≤15:=by simp at h;lia
  exact ⟨_,rfl,k x d H3 (rx.same s3) tx (by unfold fH;rw [tx.sh,decide_eq_true de,decide_eq_true h];rfl) (D2.mono s3) ((b1.trans b2).trans s3.but)⟩
 ·have b3:=(b1.trans b2).trans (s3.but (p:=p))
  refine ⟨_,rfl,_,rfl,_,rfl,p,dc,q,q',ys,ys',rfl,D2.mono s3,D.seq b3 hq,D.seq b3 hq',ne,ne',l,l',nm,nm',fun y f r H4 ry lf D4 b4=>⟨(by ext),fun t ht=>?_⟩⟩
  have t1:Tr 2 (.tuple [.str "not",.tuple (.str f::r)]):=lf.tr.one
  refine k _ _ _ (.tup (bD.of au) (.cons (.str _) (.cons (ry.same (aC.new ht)) .nil))) (t1.mono (by decide)) ?_ (D4.new ht) ((b3.trans b4).trans (bW.new ht))
  have e1:bT (.tuple [.str "not",.tuple (.str f::r)])=2:=by
   show (if (arity "not").isSome=true then 1+max (if (arity f).isSome=true then 1+dh r else 1) 0 else 1)=2
   rw [lf.ar,show arity "not" = some 1 from by ext];rfl
  have e2:cC (.tuple [.str "not",.tuple (.str f::r)])=2:=by
   show (if (arity "not").isSome=true then 1+((if (arity f).isSome=true then 1+eX r else 1)+0) else 1)=2
   rw [lf.ar,show arity "not" = some 1 from by ext];rfl
  unfold fH
  rw [t1.sh,e1,e2]
  rfl
noncomputable def g_ (nm:Str) (fs:List jM) (zs:List Int) (f:Str) (r:List PyData):Bool:=
 if f = "all" then true else match r with
 |[.str x]=>decide (nm=x)
 |[.str x,.int i]=>if x∈fs.map (·.1) then (if f = "less" then decide (zs.getD ((fs.map (·.1)).idxOf x) 0<i) else decide (zs.getD ((fs.map (·.1)).idxOf x) 0=i)) else false
 |_=>false
noncomputable def cu (nm:Str) (fs:List jM) (zs:List Int):Nat->Str->List PyData->Bool
 |0,_,_=>false
 | n+1,f,r=>
   if f = "not" then (match r with
    |[.tuple (.str g::q)]=>!cu nm fs zs n g q
    |_=>false)
   else if f = "and" then (match r with
    |[.tuple (.str g::q),.tuple (.str h::p)]=>cu nm fs zs n g q && cu nm fs zs n h p
    |_=>false)
   else if f = "or" then (match r with
    |[.tuple (.str g::q),.tuple (.str h::p)]=>cu nm fs zs n g q || cu nm fs zs n h p
    |_=>false)
   else g_ nm fs zs f r
structure MD (K:PySem.W.Frag) (C:Addr) (m qual:Str) (st:Stmt) (ps:List Str) (f:Addr) (fd:FuncData):Prop where
 M:Meth K C m f
 F:fc K m qual st f fd
 b:Binds K fd ps []
theorem v4 (n:Str) (a:Addr):(kf n a).lookup ("place_of" : Str)=none/\(kf n a).lookup ("need" : Str)=none:=⟨Dv n a (by ext) (by ext),Dv n a (by ext) (by ext)⟩
noncomputable def M5 (K:Frag) (C:Addr):Sp:=fun vs H Q _=>∃ (q o a b:Addr) (f nm:Str) (r:List PyData) (fs:List jM) (zs:List Int),vs=[.ref q,.ref o,.ref b]/\Rep K H (.ref q) (.tuple (.str f::r))/\lu f r/\gY C H o nm a fs/\fs.length≤4/\H b=some (.tup (zs.map V.int))/\zs.length=fs.length/\
 ∀ H',aC H H'->Q (.bl (g_ nm fs zs f r)) H'
noncomputable abbrev Q7:List Str:=["leaf","kind","values","form","place"]
theorem yI:aU Q7 ["leaf","kind","values"] (aD (top 30)):=by ext
theorem J4 (F:fc K "passes_leaf" "passes_leaf" (top 30) f fd) (KC:KCls K mg C) (MP:MD K C "place_of" "Kind.place_of" (kM 3) ["self","field"] fM fdM) (GM:aQ P w K mg base bC 1 fM fdM ["self","field"] (vq C)):aQ P w K mg base bC 2 f fd ["leaf","kind","values"] (M5 K C):=by
 refine F.ok yI (by ext) fun cdv A outer s H vs Q E hr h=>?_
 obtain ⟨q,o,a,b,f,nm,r,fs,zs,rfl,rq,lf,ka,fl,hb,zl,k⟩:=h
 refine ⟨_,(ak (bc (i:=3) yI.nd rfl (.inl rfl) (aZ aY (pv 0) aA (fun _ _=>rfl)))
  (ak (a_ (aH bz (pv 3) aM (aN _)) (aB (aJ cY)) aL)
  (ak (a_ (aH bz (pv 3) aM (aN _)) (aB (aJ (bN bz (qF (pv 1) rfl) (aZ aY (pv 0) aA (fun _ _=>rfl)) (aN _)))) aL)
  (ak (bc (i:=4) yI.nd rfl (.inl rfl) (vh (E:=E0) (pv 1) KC.cl MP.M GM hr MP.b .nil lC (aa (aZ aY (pv 0) aA (fun _ _=>rfl)) aj)))
  (ak (a_ (aH ut (pv 4) qi (aN _)) (aB (aJ cY)) aL)
  (aB (aJ (eN (aH bz (pv 3) aM (aN _)) (bN jO (aZ aY (pv 2) (pv 4) (fun _ _=>rfl)) (aZ aY (pv 0) aA (fun _ _=>rfl)) (aN _)) (bN bz (aZ aY (pv 2) (pv 4) (fun _ _=>rfl)) (aZ aY (pv 0) aA (fun _ _=>rfl)) (aN _)))))))))),?_⟩
 have ka0:=ka
 obtain ⟨⟨dx,ho⟩,_⟩:=ka0
 cases rq with
 |@tup _ xs _ sq rs=>
 cases lf with
 | all=>
   obtain ⟨x0,rfl⟩:∃ x0,xs=[x0]:=by
    cases rs with|cons r1 r2=>cases r2;exact ⟨_,rfl⟩
   cases rs with|cons r1 r2=>
   cases r1
   exact ⟨_,rfl,q,_,_,_,rfl,rfl,sq,aF (j:=0) rfl,_,rfl,rfl,_,rfl,b_ (by ext) (k _ (aC.refl _))⟩
 | @is x hx=>
   obtain ⟨x0,x1,rfl⟩:∃ x0 x1,xs=[x0,x1]:=by
    cases rs with|cons r1 r2=>cases r2 with|cons r2 r3=>cases r3;exact ⟨_,_,rfl⟩
   cases rs with|cons r1 r2=>
   cases r2 with|cons r2 r3=>
   cases r1
   cases r2
   refine ⟨_,rfl,q,_,_,_,rfl,rfl,sq,aF (j:=0) rfl,_,rfl,rfl,_,rfl,bJ (by ext) ⟨_,rfl,rfl,_,rfl,b_ (by ext) ?_⟩⟩
   refine ⟨_,rfl,o,C,dx,_,_,rfl,ho,KC.cl,KC.nN,Bt nm a,_,rfl,q,_,_,_,rfl,rfl,sq,aF (j:=1) rfl,rfl,?_⟩
   have e:decide (V.str nm=V.str x)=g_ nm fs zs "is" [.str x]:=by
    unfold g_
    rw [if_neg (by ext)]
    simp
   show Q (.bl (decide (V.str nm=V.str x))) H
   rw [e]
   exact k _ (aC.refl _)
 | @num f' x i hf hx hi=>
   obtain ⟨x0,x1,x2,rfl⟩:∃ x0 x1 x2,xs=[x0,x1,x2]:=by
    cases rs with|cons r1 r2=>cases r2 with|cons r2 r3=>cases r3 with|cons r3 r4=>cases r4;exact ⟨_,_,_,rfl⟩
   cases rs with|cons r1 r2=>
   cases r2 with|cons r2 r3=>
   cases r3 with|cons r3 r4=>
   cases r1
   cases r2
   cases r3
   have n1:decide (V.str f=V.str "all")=false:=by rcases hf with rfl|rfl <;> decide +kernel
   have n2:decide (V.str f=V.str "is")=false:=by rcases hf with rfl|rfl <;> decide +kernel
   have n3:¬ f = "all":=by rcases hf with rfl|rfl <;> decide +kernel
   refine ⟨_,rfl,q,_,_,_,rfl,rfl,sq,aF (j:=0) rfl,_,rfl,rfl,_,rfl,bJ n1 ⟨_,rfl,rfl,_,rfl,bJ n2 ?_⟩⟩
   refine ⟨_,rfl,o,dx,_,rfl,ho,(v4 nm a).1,_,rfl,q,_,_,_,rfl,rfl,sq,aF (j:=1) rfl,o,a,nm,x,fs,rfl,ka,fl,fun H1 s1=>?_⟩
   have sq1:=s1.tup sq
   have hb1:=s1 _ _ hb
   unfold g_ at k
   rw [if_neg n3] at k
   unfold qN
   by_cases hin:x∈fs.map (·.1)
   ·rw [if_pos hin]
    have k:∀ H',aC H H'->Q (.bl (if f = "less" then decide (zs.getD ((fs.map (·.1)).idxOf x) 0<i) else decide (zs.getD ((fs.map (·.1)).idxOf x) 0=i))) H':=fun H' s'=>by
     have:=k H' s'
     dsimp only at this
     rw [if_pos hin] at this
     exact this
    have il:(fs.map (·.1)).idxOf x<zs.length:=by
     have:=List.idxOf_lt_length_iff.mpr hin
     rw [List.length_map] at this
     lia
    have eg:zs.getD ((fs.map (·.1)).idxOf x) 0=zs[(fs.map (·.1)).idxOf x]:=by simp [List.getD_eq_getElem?_getD,il]
    rw [eg] at k
    refine ⟨_,rfl,rfl,_,rfl,bJ (by simp) ?_⟩
    have at1:qj (zs.map V.int) (((fs.map (·.1)).idxOf x:Nat):Int)=some (.int zs[(fs.map (·.1)).idxOf x]):=aF (by rw [List.getElem?_map,List.getElem?_eq_getElem il];rfl)
    refine ⟨_,rfl,rfl,_,rfl,?_⟩
    rcases hf with rfl|rfl
    ·refine b_ (by ext) ?_
     have:=k _ s1
     rw [if_pos rfl] at this
     exact ⟨_,rfl,_,rfl,b,_,_,_,rfl,rfl,bD.of hb1,at1,_,rfl,q,_,_,_,rfl,rfl,sq1,aF (j:=2) rfl,_,_,rfl,rfl,this⟩
    ·refine bJ (by ext) ?_
     have:=k _ s1
     rw [if_neg (by ext)] at this
     refine ⟨_,rfl,_,rfl,b,_,_,_,rfl,rfl,bD.of hb1,at1,_,rfl,q,_,_,_,rfl,rfl,sq1,aF (j:=2) rfl,rfl,?_⟩
     have e:decide (V.int zs[(fs.map (·.1)).idxOf x]=V.int i)=decide (zs[(fs.map (·.1)).idxOf x]=i):=by simp
     rw [e]
     exact this
   ·rw [if_neg hin]
    have k:∀ H',aC H H'->Q (.bl false) H':=fun H' s'=>by
     have:=k H' s'
     dsimp only at this
     rw [if_neg hin] at this
     exact this
    exact ⟨_,rfl,rfl,_,rfl,b_ (by ext) (k _ s1)⟩
noncomputable def Ls (nm:Str) (fs:List jM) (zs:List Int):PyData->Bool
 |.tuple (.str f::r)=>cu nm fs zs 5 f r
 |_=>false
theorem pP (N:Node n f r) (tr:∀ d∈r,TD d):(f = "not"/\∃ g q,r=[.tuple (.str g::q)])∨((f = "and"∨f = "or")/\∃ g q h p,r=[.tuple (.str g::q),.tuple (.str h::p)]):=by
 have ar:=N.ar
 unfold arity at ar
 by_cases h1:f = "not"
 ·rw [if_pos h1] at ar
  injection ar with ar
  left
  refine ⟨h1,?_⟩
  match r,ar,N,tr with
  | [x],_,N,tr=>
    obtain ⟨g,q,rfl⟩:=dj (tr x (by simp)) (N.sh x (by simp))
    exact ⟨g,q,rfl⟩
 ·rw [if_neg h1] at ar
  right
  have two:∀ {r:List PyData},2=r.length->(∀ d∈r,TD d)->(∀ d∈r,bQ d=true)->∃ g q h p,r=[.tuple (.str g::q),.tuple (.str h::p)]:=by
   intro r e t s
   match r,e,t,s with
   | [x,y],_,t,s=>
     obtain ⟨g,q,rfl⟩:=dj (t x (by simp)) (s x (by simp))
     obtain ⟨h,p,rfl⟩:=dj (t y (by simp)) (s y (by simp))
     exact ⟨g,q,h,p,rfl⟩
  by_cases h2:f = "and"
  ·rw [if_pos h2] at ar
   injection ar with ar
   exact ⟨.inl h2,two ar tr N.sh⟩
  ·rw [if_neg h2] at ar
   by_cases h3:f = "or"
   ·rw [if_pos h3] at ar
    injection ar with ar
    exact ⟨.inr h3,two ar tr N.sh⟩
   ·rw [if_neg h3] at ar
    cases ar
theorem jA (h:arity f=none):¬ f = "not"/\¬ f = "and"/\¬ f = "or":=by
 unfold arity at h
 refine ⟨fun z=>?_,fun z=>?_,fun z=>?_⟩
 ·rw [if_pos z] at h;cases h
 ·by_cases h1:f = "not"
  ·rw [if_pos h1] at h;cases h
  ·rw [if_neg h1,if_pos z] at h;cases h
 ·by_cases h1:f = "not"
  ·rw [if_pos h1] at h;cases h
  ·rw [if_neg h1] at h
   by_cases h2:f = "and"
   ·rw [if_pos h2] at h;cases h
   ·rw [if_neg h2,if_pos z] at h;cases h
theorem fQ (h:¬ f=g):decide (V.str f=V.str g)=false:=by
 rw [decide_eq_false_iff_not,V.str.injEq];exact h
noncomputable def fY (x:Str) (ns:List Str) (n:Nat):List Nat:=(List.range n).filter fun i=>decide (ns[i]?=some x)
theorem sW (x y:Str) (t:List Str):fY x (y::t) (t.length+1)=(if y=x then [0] else [])++(fY x t t.length).map Nat.succ:=by
 unfold fY
 rw [List.range_succ_eq_map,List.filter_cons,List.filter_map]
 have e:((fun i=>decide ((y::t)[i]?=some x)) ∘ Nat.succ)=fun i=>decide (t[i]?=some x):=by
  funext i
  simp
 rw [e]
 by_cases h:y=x
 ·simp [h]
 ·simp [h]
theorem rM (x:Str):∀ ns:List Str,(x∉ns->fY x ns ns.length=[])/\(x∈ns->∃ r,fY x ns ns.length=ns.idxOf x::r)
 |[]=>⟨fun _=>rfl,fun h=>by simp at h⟩
 | y::t=>by
   obtain ⟨ih1,ih2⟩:=rM x t
   rw [List.length_cons,sW]
   refine ⟨fun h=>?_,fun h=>?_⟩
   ·simp at h
    rw [if_neg (fun z=>h.1 z.symm),ih1 h.2]
    rfl
   ·by_cases e:y=x
    ·rw [if_pos e]
     exact ⟨_,by rw [List.idxOf_cons,show (y == x)=true from by simp [e]];rfl⟩
    ·rw [if_neg e]
     have hm:x∈t:=by
      rcases List.mem_cons.mp h with z|z
      ·exact absurd z.symm e
      ·exact z
     obtain ⟨r,er⟩:=ih2 hm
     refine ⟨r.map Nat.succ,?_⟩
     rw [er,List.idxOf_cons,show (y == x)=false from by simp [e]]
     rfl
section
variable {P:Program} {w:World} {K:PySem.W.Frag} {mg:Str->Option Value} {base:Heap}
structure Lw (K:Frag) (n:Nat) (H:Hp) (q a b:Addr) (f:Str) (r:List PyData) (xs:List V) (fs:List jM) (zs:List Int):Prop where
 rq:Rep K H (.ref q) (.tuple (.str f::r))
 td:TD (.tuple (.str f::r))
 sh:bQ (.tuple (.str f::r))=true
 de:bT (.tuple (.str f::r))≤n
 ha:H a=some (.tup xs)
 pf:Paired (fj H) xs fs
 fl:fs.length≤4
 hb:H b=some (.tup (zs.map V.int))
 zl:zs.length=fs.length
noncomputable def Hn (K:Frag) (n:Nat):Sp:=fun vs H Q _=>∃ (q a b:Addr) (f nm:Str) (r:List PyData) (xs:List V) (fs:List jM) (zs:List Int),vs=[.ref q,.str nm,.ref a,.ref b]/\Lw K n H q a b f r xs fs zs/\∀ H',aC H H'->Q (.bl (cu nm fs zs n f r)) H'
noncomputable abbrev HW:List Str:=["_law_test_here","_law_title","_law_fields_here","_law_values"]
noncomputable abbrev Nz:List Str:=["_law_test_here","_law_title","_law_fields_here","_law_values","_law_both","_law_spots"]
theorem Gs:aU Nz HW (aD (top 72)):=by ext
theorem Jy (DL:cj K mg "_law_passes" (top 72) HW f fd) (T:Txt K mg) (n:Nat):aQ P w K mg base bC n f fd HW (Hn K n):=by
 refine Nat.rec (motive:=fun n=>aQ P w K mg base bC n f fd HW (Hn K n)) ⟨fun _ _ _ _ h=>?_,fun _ _ _ _ _ _ _ _ _ _ _ _ _ h=>?_⟩ (fun n GL=>?_) n
 ·obtain ⟨q,a,b,f,nm,r,xs,fs,zs,_,h,_⟩:=h
  exact absurd (Nat.le_trans (eF _) h.de) (by decide)
 ·obtain ⟨q,a,b,f,nm,r,xs,fs,zs,_,h,_⟩:=h
  exact absurd (Nat.le_trans (eF _) h.de) (by decide)
 refine DL.F.ok Gs (by ext) fun cdv A outer s H vs Q E hr h=>?_
 obtain ⟨q,a,b,f,nm,r,xs,fs,zs,rfl,h,k⟩:=h
 refine ⟨_,(ak (a_ (aH bz (aZ aY (pv 0) aA (fun _ _=>rfl)) aM (aN _)) (aB (aJ (yK (bO DL GL hr (aa (aZ aY (pv 0) aA (fun _ _=>rfl)) (aa (pv 1) (aa (pv 2) (aa (pv 3) aj)))))))) aL)
  (ak (a_ (aH dX (aZ aY (pv 0) aA (fun _ _=>rfl)) (bu (aa aM (aa aM aj))) rfl) (ak
   (eY (g:=bG 0) (i:=4) (own:=["_law_part"]) (js:=[2,1,3]) (N':=["_law_part","_law_fields_here","_law_title","_law_values"]) (bL.of (osc:=aD (top 72)) (N:=Nz) rfl rfl (by ext)) rfl Gs.nd rfl rfl (iB (cG gn (pv 0) (cR aA) cW)) (fun _ _ _ _ _=>(aK (i:=0) (show List.Nodup (["_law_part","_law_fields_here","_law_title","_law_values"]:List Str) by ext) rfl (.inl rfl) (.inr rfl))) (fun _ _ _ _ _=>dF) (fun _ _ _ _ _=>jC GL hr rfl DL.mg DL.F.kp DL.b .nil lC (aa (pv 0) (aa (pv 2) (aa (pv 1) (aa (pv 3) aj))))))
   (aB (aJ (eN (aH bz (aZ aY (pv 0) aA (fun _ _=>rfl)) aM (aN _)) (aG (jy rfl) (by rfl) T.all qC (aa (pv 4) aj)) (aG (wD rfl) (by rfl) T.any Fl (aa (pv 4) aj)))))) aL)
  (ak (a_ (aH bz (aZ aY (pv 0) aA (fun _ _=>rfl)) aM (aN _)) (aB (aJ cY)) aL)
  (ak (a_ (aH bz (aZ aY (pv 0) aA (fun _ _=>rfl)) aM (aN _)) (aB (aJ (bN bz (pv 1) (aZ aY (pv 0) aA (fun _ _=>rfl)) (aN _)))) aL)
  (ak (eY (g:=bG 0) (i:=5) (own:=["_law_at"]) (js:=[2,0]) (N':=["_law_at","_law_fields_here","_law_test_here"]) (bL.of (osc:=aD (top 72)) (N:=Nz) rfl rfl (by ext)) rfl Gs.nd rfl rfl (dG rfl T.range (aa (aG aO (by rfl) T.len bH (aa (pv 2) aj)) aj)) (fun _ _ _ _ _=>(aK (i:=0) (show List.Nodup (["_law_at","_law_fields_here","_law_test_here"]:List Str) by ext) rfl (.inl rfl) (.inr rfl))) (fun _ _ _ _ _=>kW (aH (r:=Oo) bz (aZ (r:=oG K) aY (aZ (r:=oG K) aY (pv 1) (pv 0) (fun _ _=>rfl)) aA (fun _ _=>rfl)) (aZ (r:=oG K) aY (pv 2) aA (fun _ _=>rfl)) (aN _))) (fun _ _ _ _ _=>pv 0))
  (ak (a_ (aH bz (aG aO (by rfl) T.len bH (aa (pv 5) aj)) aA (aN _)) (aB (aJ cY)) aL)
  (aB (aJ (eN (aH bz (aZ aY (pv 0) aA (fun _ _=>rfl)) aM (aN _)) (bN jO (aZ aY (pv 3) (aZ cF (pv 5) aA (fun _ _=>rfl)) (fun _ _=>rfl)) (aZ aY (pv 0) aA (fun _ _=>rfl)) (aN _)) (bN bz (aZ aY (pv 3) (aZ cF (pv 5) aA (fun _ _=>rfl)) (fun _ _=>rfl)) (aZ aY (pv 0) aA (fun _ _=>rfl)) (aN _))))))))))),?_⟩
 obtain ⟨rq,td,sh,de,ha,pf,fl,hb,zl⟩:=h
 have rq0:=rq
 have pl:=Paired.length pf
 cases td with
 |node af lf nr tr=>
 cases rq with
 |@tup _ qs _ sq rs=>
 obtain ⟨x0,ys,rfl⟩:∃ x0 ys,qs=x0::ys:=by cases rs;exact ⟨_,_,rfl⟩
 obtain ⟨r0,rt⟩:Rep K H x0 (.str f)/\bj K H ys r:=by cases rs with|cons a b=>exact ⟨a,b⟩
 cases r0
 have hl:=rt.length
 refine ⟨_,rfl,q,_,_,_,rfl,rfl,sq,aF (j:=0) rfl,rfl,_,rfl,?_⟩
 unfold cu at k
 have ins:∀ {n':Nat} {g:Str} {u:List PyData} {y:V} {H1:Hp},aC H H1->Rep K H y (.tuple (.str g::u))->TD (.tuple (.str g::u))->bQ (.tuple (.str g::u))=true->bT (.tuple (.str g::u))≤n'->∃ q1,y=.ref q1/\Lw K n' H1 q1 a b g u xs fs zs:=by
  intro n' g u y H1 e ry t s d
  cases ry with
  |@tup q1 z1 _ s1 t1=>exact ⟨q1,rfl,.tup (e.tup s1) (t1.same e),t,s,d,e _ _ ha,eQ pf fun _ _ z=>e _ _ z,fl,e _ _ hb,zl⟩
 rcases iZ sh de with ⟨hna,hlf⟩|N
 ·obtain ⟨n1,n2,n3⟩:=jA hna
  rw [if_neg n1,if_neg n2,if_neg n3] at k
  refine bJ (fQ n1) ⟨_,rfl,q,_,_,_,rfl,rfl,sq,aF (j:=0) rfl,(by ext),fun t ht=>?_⟩
  have s0:aC H (upd H t (.tup [.str "and",.str "or"])):=aC.new ht
  refine ⟨t,_,rfl,.inr (bD.of au),rfl,rfl,_,rfl,?_⟩
  rw [Bk]
  generalize upd H t (.tup [.str "and",.str "or"])=H0 at s0 ⊢
  have sq0:=s0.tup sq
  refine bJ (decide_eq_false fun z=>z.elim n2 n3) ⟨_,rfl,q,_,_,_,rfl,rfl,sq0,aF (j:=0) rfl,rfl,_,rfl,?_⟩
  have lf:=qw hlf
  cases lf with
  |all=>exact b_ (by ext) (k _ s0)
  | @is x hx=>
    cases rt with|@cons y1 _ y2 _ r1 r2=>
    cases r2
    cases r1
    refine bJ (by ext) ⟨_,rfl,q,_,_,_,rfl,rfl,sq0,aF (j:=0) rfl,rfl,_,rfl,b_ (by ext) ?_⟩
    refine ⟨_,rfl,_,rfl,q,_,_,_,rfl,rfl,sq0,aF (j:=1) rfl,rfl,?_⟩
    have e:decide (V.str nm=V.str x)=g_ nm fs zs "is" [.str x]:=by
     unfold g_
     rw [if_neg (by ext)]
     simp
    show Q (.bl (decide (V.str nm=V.str x))) H0
    rw [e]
    exact k _ s0
  | @num f' x i hf hx hi=>
    cases rt with|@cons y1 _ y2 _ r1 r2=>
    cases r2 with|@cons y3 _ y4 _ r2 r3=>
    cases r3
    cases r1
    cases r2
    have m1:decide (V.str f=V.str "all")=false:=by rcases hf with rfl|rfl <;> decide +kernel
    have m2:decide (V.str f=V.str "is")=false:=by rcases hf with rfl|rfl <;> decide +kernel
    have m3:¬ f = "all":=by rcases hf with rfl|rfl <;> decide +kernel
    unfold g_ at k
    rw [if_neg m3] at k
    dsimp only at k
    have ha0:=s0 _ _ ha
    have big:200000≤sizeLine:=by decide
    refine bJ m1 ⟨_,rfl,q,_,_,_,rfl,rfl,sq0,aF (j:=0) rfl,rfl,_,rfl,bJ m2 ?_⟩
    refine ⟨_,rfl,a,xs,rfl,.inr (bD.of ha0),(xs.length:Int),rfl,by lia,by lia,?_⟩
    refine rB (lo:=0) (n:=xs.length) (fun j ws σ' H'=>(∃ v,σ'=[v,some (.ref a),some (.ref q)])/\H'=H0/\ws=(fY x (fs.map (·.1)) j).map fun j=>V.int (j:Nat)) (by lia) ⟨⟨none,rfl⟩,rfl,rfl⟩ ?_ ?_
    ·rintro j ws σ' H' hj ⟨⟨v,rfl⟩,rfl,rfl⟩ N hN
     rw [show (0:Int)+(j:Int)=((j:Nat):Int) from Int.zero_add _]
     have hxj:=List.getElem?_eq_getElem hj
     obtain ⟨⟨fn,flo,fhi⟩,hfj,b',e',hb'⟩:=f9 pf hxj
     have hb0:=s0 _ _ hb'
     refine ⟨_,rfl,_,rfl,a,_,_,xs[j],rfl,rfl,bD.of ha0,aF hxj,b',_,_,_,e',rfl,bD.of hb0,aF (j:=0) rfl,_,rfl,q,_,_,_,rfl,rfl,sq0,aF (j:=1) rfl,rfl,_,rfl,?_⟩
     have cd:decide (V.str fn=V.str x)=decide ((fs.map (·.1))[j]?=some x):=by
      rw [List.getElem?_map,hfj]
      simp
     have e1:fY x (fs.map (·.1)) (j+1)=fY x (fs.map (·.1)) j++(if decide ((fs.map (·.1))[j]?=some x)=true then [j] else []):=by
      unfold fY
      rw [List.range_succ,List.filter_append,List.filter_cons,List.filter_nil]
     refine (show (if decide (V.str fn=V.str x)=true then _ else _) from ?_)
     rw [cd]
     cases hd:decide ((fs.map (·.1))[j]?=some x) with
     | true=>
       rw [hd] at e1
       exact b_ rfl ⟨_,rfl,hN _ _ _ ⟨⟨_,rfl⟩,rfl,by rw [e1];simp⟩ (by simp)⟩
     | false=>
       rw [hd] at e1
       exact bJ rfl (hN _ _ _ ⟨⟨_,rfl⟩,rfl,by rw [e1];simp⟩ (by simp))
    ·rintro ws σ' H' hw ⟨⟨v,rfl⟩,rfl,rfl⟩
     rw [show xs.length=(fs.map (·.1)).length by rw [List.length_map];exact pl] at hw ⊢
     refine ⟨Nat.le_trans hw (by rw [List.length_map];lia),fun p hp=>?_⟩
     obtain ⟨o1,o2⟩:=rM x (fs.map (·.1))
     have s1:aC H' (upd H' p (.lst ((fY x (fs.map (·.1)) (fs.map (·.1)).length).map fun j=>V.int (j:Nat)))):=aC.new hp
     have hp1:(upd H' p (.lst ((fY x (fs.map (·.1)) (fs.map (·.1)).length).map fun j=>V.int (j:Nat)))) p=some (.lst ((fY x (fs.map (·.1)) (fs.map (·.1)).length).map fun j=>V.int (j:Nat))):=au
     generalize upd H' p (.lst ((fY x (fs.map (·.1)) (fs.map (·.1)).length).map fun j=>V.int (j:Nat)))=H1 at s1 hp1 ⊢
     have S1:=s0.trans s1
     have sq1:=S1.tup sq
     have hb1:=S1 _ _ hb
     by_cases hin:x∈fs.map (·.1)
     ·obtain ⟨rest,er⟩:=o2 hin
      rw [er,List.map_cons] at hp1
      rw [if_pos hin] at k
      have il:(fs.map (·.1)).idxOf x<zs.length:=by
       have:=List.idxOf_lt_length_iff.mpr hin
       rw [List.length_map] at this
       lia
      have eg:zs.getD ((fs.map (·.1)).idxOf x) 0=zs[(fs.map (·.1)).idxOf x]:=by simp [List.getD_eq_getElem?_getD,il]
      rw [eg] at k
      have at1:qj (zs.map V.int) (((fs.map (·.1)).idxOf x:Nat):Int)=some (.int zs[(fs.map (·.1)).idxOf x]):=aF (by rw [List.getElem?_map,List.getElem?_eq_getElem il];rfl)
      refine ⟨_,rfl,p,_,rfl,.inl (bF.of hp1),rfl,_,rfl,bJ (by simp;lia) ?_⟩
      refine ⟨_,rfl,q,_,_,_,rfl,rfl,sq1,aF (j:=0) rfl,rfl,_,rfl,?_⟩
      rcases hf with rfl|rfl
      ·refine b_ (by ext) ?_
       have:=k _ S1
       rw [if_pos rfl] at this
       exact ⟨_,rfl,_,rfl,p,_,_,_,rfl,rfl,bF.of hp1,aF (j:=0) rfl,b,_,_,_,rfl,rfl,bD.of hb1,at1,_,rfl,q,_,_,_,rfl,rfl,sq1,aF (j:=2) rfl,_,_,rfl,rfl,this⟩
      ·refine bJ (by ext) ?_
       have:=k _ S1
       rw [if_neg (by ext)] at this
       refine ⟨_,rfl,_,rfl,p,_,_,_,rfl,rfl,bF.of hp1,aF (j:=0) rfl,b,_,_,_,rfl,rfl,bD.of hb1,at1,_,rfl,q,_,_,_,rfl,rfl,sq1,aF (j:=2) rfl,rfl,?_⟩
       have e:decide (V.int zs[(fs.map (·.1)).idxOf x]=V.int i)=decide (zs[(fs.map (·.1)).idxOf x]=i):=by simp
       rw [e]
       exact this
     ·rw [o1 hin,List.map_nil] at hp1
      rw [if_neg hin] at k
      exact ⟨_,rfl,p,_,rfl,.inl (bF.of hp1),rfl,_,rfl,b_ (by ext) (k _ S1)⟩
 ·rcases pP N tr with ⟨rfl,g,u,rfl⟩|⟨hf,g,u,h,v,rfl⟩
  ·rw [if_pos rfl] at k
   cases rt with
   |@cons y1 _ y2 _ r1 r2=>
   cases r2
   obtain ⟨q1,rfl,i1⟩:=ins (aC.refl _) r1 (tr _ (by simp)) (N.sh _ (by simp)) (N.de _ (by simp))
   exact b_ (by ext) ⟨_,rfl,q,_,_,_,rfl,rfl,sq,aF (j:=1) rfl,_,rfl,_,rfl,_,rfl,q1,a,b,g,nm,u,xs,fs,zs,rfl,i1,fun H1 e1=>⟨_,rfl,k H1 e1⟩⟩
  ·have n1:¬ f = "not":=by rcases hf with rfl|rfl <;> decide +kernel
   refine bJ (fQ n1) ⟨_,rfl,q,_,_,_,rfl,rfl,sq,aF (j:=0) rfl,(by ext),fun t ht=>?_⟩
   have s0:aC H (upd H t (.tup [.str "and",.str "or"])):=aC.new ht
   refine ⟨t,_,rfl,.inr (bD.of au),rfl,rfl,_,rfl,?_⟩
   rw [Bk]
   generalize upd H t (.tup [.str "and",.str "or"])=H0 at s0 ⊢
   have sq0:=s0.tup sq
   refine b_ (decide_eq_true hf) ⟨_,rfl,1,rfl,q,_,rfl,sq0,(fun e=>?_),fun p hp=>?_⟩
   ·rw [nC] at e
    have:=congrArg List.length e
    simp at this
   rw [nC]
   have sp:bD K (upd H0 p (.tup ys)) p ys:=bD.of au
   have s1:aC H0 (upd H0 p (.tup ys)):=aC.new hp
   generalize upd H0 p (.tup ys)=H1 at sp s1 ⊢
   refine ⟨p,rfl,⟨_,sp⟩,?_⟩
   refine jn (K:=K) (a:=p) (xs:=ys) (fun i ws σ' H'=>(∃ v,σ'=[v,some (.ref a),some (.str nm),some (.ref b)])/\aC H1 H'/\ws=(([cu nm fs zs n g u,cu nm fs zs n h v].take i).map V.bl)) (Nat.le_trans (show ys.length≤2 by rw [hl];simp) (by decide)) ⟨⟨none,rfl⟩,aC.refl _,rfl⟩ (fun i ws σ' H' _ ⟨_,s2,_⟩=>s2.tup sp) ?_ ?_
   ·rintro i y ws σ' H2 hy hws ⟨⟨v',rfl⟩,s2,rfl⟩ N' hN
    obtain ⟨d,hd,ry⟩:=rt.get' hy
    have me:=List.mem_of_getElem? hd
    have il:i<2:=(List.getElem?_eq_some_iff.mp hd).1
    obtain ⟨g',u',rfl,hi⟩:∃ g' u',d=.tuple (.str g'::u')/\([cu nm fs zs n g u,cu nm fs zs n h v]:List Bool)[i]?=some (cu nm fs zs n g' u'):=by
     match i,il,hd with
     |0,_,hd=>exact ⟨g,u,by simpa using hd.symm,rfl⟩
     |1,_,hd=>exact ⟨h,v,by simpa using hd.symm,rfl⟩
    obtain ⟨q1,rfl,i1⟩:=ins ((s0.trans s1).trans s2) ry (tr _ me) (N.sh _ me) (N.de _ me)
    refine ⟨_,rfl,_,rfl,_,rfl,_,rfl,q1,a,b,g',nm,u',xs,fs,zs,rfl,i1,fun H3 s3=>?_⟩
    exact hN _ _ _ (by rw [List.length_append,hws];rfl) ⟨⟨_,rfl⟩,s2.trans s3,by rw [List.take_add_one,hi];simp⟩
   ·rintro ws σ' H2 hws ⟨⟨v',rfl⟩,s2,rfl⟩
    rw [List.take_of_length_le (by rw [hl];simp),show ([cu nm fs zs n g u,cu nm fs zs n h v]:List Bool).map V.bl=[.bl (cu nm fs zs n g u),.bl (cu nm fs zs n h v)] from rfl]
    refine ⟨(by ext),fun l hl'=>?_⟩
    have s3:aC H (upd H2 l (.lst [.bl (cu nm fs zs n g u),.bl (cu nm fs zs n h v)])):=((s0.trans s1).trans s2).trans (aC.new hl')
    have h3:(upd H2 l (.lst [.bl (cu nm fs zs n g u),.bl (cu nm fs zs n h v)])) l=some (.lst [.bl (cu nm fs zs n g u),.bl (cu nm fs zs n h v)]):=au
    generalize upd H2 l (.lst [.bl (cu nm fs zs n g u),.bl (cu nm fs zs n h v)])=H3 at s3 h3 ⊢
    refine ⟨_,rfl,q,_,_,_,rfl,rfl,s3.tup sq,aF (j:=0) rfl,rfl,_,rfl,?_⟩
    rcases hf with rfl|rfl
    ·rw [if_neg (by ext),if_pos rfl] at k
     have:=k _ s3
     refine b_ (by ext) ⟨_,rfl,l,[cu nm fs zs n g u,cu nm fs zs n h v],rfl,bF.of h3,?_⟩
     simpa using this
    ·rw [if_neg (by ext),if_neg (by ext),if_pos rfl] at k
     have:=k _ s3
     refine bJ (by ext) ⟨_,rfl,l,[cu nm fs zs n g u,cu nm fs zs n h v],rfl,bF.of h3,?_⟩
     simpa using this
end
noncomputable def zL (K:PySem.W.Frag):Sp:=fun vs H Q _=>∃ (p dc:Addr) (x:V) (f:jM),vs=[.ref p,x]/\Dr H p dc/\fj H x f/\lF f/\∀ (z:Int) (H':Hp),f.2.1≤z->z≤f.2.2->Dr H' p dc->bW p H H'->Q (.int z) H'
theorem uN:aU ["_law_d","_law_field","_law_title","_law_low","_law_high"] ["_law_d","_law_field"] (aD (top 59)):=by ext
theorem Cz (F:fc K "_law_value" "_law_value" (top 59) f fd) (T:Txt K mg) (DP:cj K mg "_law_pick" (top 51) ["_law_d","_law_many"] fP fdP) (DO:cj K mg "_law_of" (top 52) ["_law_d","_law_things"] fO fdO) :
 aQ P w K mg base bC 3 f fd ["_law_d","_law_field"] (zL K):=by
 have GP:aQ P w K mg base bC 1 fP fdP ["_law_d","_law_many"] d_:=dw DP.F T
 have GO:aQ P w K mg base bC 2 fO fdO ["_law_d","_law_things"] (oU K):=lJ DO.F T DP
 refine F.ok uN (by ext) fun cdv A outer s H vs Q E hr h=>?_
 obtain ⟨p,dc,x,fl,rfl,D,⟨b,rfl,hb⟩,fo,k⟩:=h
 have hr1:bR 1 _:=hr.mono (by decide)
 refine ⟨_,(ak (cM (pv 1) (cD rfl (aP (aK (i:=2) uN.nd rfl (.inl rfl)) (aP (aK (i:=3) uN.nd rfl (.inl rfl)) (aP (aK (i:=4) uN.nd rfl (.inl rfl)) bY)))))
  (aB (aJ (bO DO GO hr (aa (pv 0) (aa (bM (aa (pv 3) (aa (pv 4) (aa (bh cH (pv 3) (bO DP GP hr1 (aa (pv 0) (aa (bh cH (bh dM (pv 4) (pv 3)) aA) aj)))) aj)))) aj)))))),?_⟩
 have f1:=fo.lo
 have f2:=fo.le
 have f3:=fo.hi
 refine ⟨_,rfl,b,_,rfl,bD.of hb,rfl,_,_,rfl,_,_,rfl,_,_,rfl,rfl,?_⟩
 refine ⟨_,rfl,_,rfl,_,rfl,_,rfl,_,rfl,_,rfl,_,rfl,_,_,rfl,rfl,_,_,rfl,rfl,p,dc,_,rfl,D,by lia,by lia,fun r H1 r0 r1 D1 t1=>⟨_,_,rfl,rfl,(by ext),fun q hq=>?_⟩⟩
 refine ⟨p,dc,q,_,rfl,D1.new hq,bF.of au,by simp,by simp,fun y H2 hy D2 t2=>?_⟩
 obtain ⟨z,rfl,z0,z1⟩:∃ z:Int,y=.int z/\fl.2.1≤z/\z≤fl.2.2:=by
  simp only [List.mem_cons,List.not_mem_nil,or_false] at hy
  rcases hy with rfl|rfl|rfl
  all_goals exact ⟨_,rfl,by lia,by lia⟩
 exact k z H2 z0 z1 D2 ((t1.trans (bW.new hq)).trans t2)
noncomputable def La (e:PyData):Prop:=TD e/\bI e≤60/\∃ f r,e=.tuple (.str f::r)
theorem Qc (ha:bD K H a xs) (e:jj xs lo hi=zs) (k:∀ l H',aC H H'->bD K H' l zs->Q (.ref l) H'):FZ K (.ref a) lo hi H Q:=by
 subst e
 exact ⟨a,xs,rfl,ha,fun e=>k a H (aC.refl _) (by rw [e];exact ha),fun p hp=>k p _ (aC.new hp) (bD.of au)⟩
noncomputable def J_:Sp:=fun vs H Q _=>∃ (p dc:Addr),vs=[.ref p]/\Dr H p dc/\∀ (t a:Addr) (nm:Str) (xs:List V) (fs:List jM) (H':Hp),H' t=some (.tup [.str nm,.ref a])->Nm nm->H' a=some (.tup xs)->Paired (fj H') xs fs->fs.length≤4->(∀ f∈fs,lF f)->(fs.map (·.1)).Nodup->Dr H' p dc->bW p H H'->Q (.ref t) H'
theorem JG:aU ["_law_d","_law_fields_here"] ["_law_d"] (aD (top 73)):=by ext
theorem Kp (F:fc K "_law_kind_of" "_law_kind_of" (top 73) f fd) (T:Txt K mg) (DP:cj K mg "_law_pick" (top 51) ["_law_d","_law_many"] fP fdP) (DW:cj K mg "_law_word" (top 55) ["_law_d"] fW fdW) (GW:aQ P w K mg base bC 3 fW fdW ["_law_d"] nO) (DF:cj K mg "_law_fields" (top 58) ["_law_d","_law_many"] fF fdF) (GF:aQ P w K mg base bC 5 fF fdF ["_law_d","_law_many"] (rY K)):aQ P w K mg base bC 6 f fd ["_law_d"] J_:=by
 have GP:aQ P w K mg base bC 1 fP fdP ["_law_d","_law_many"] d_:=dw DP.F T
 refine F.ok JG (by ext) fun cdv A outer s H vs Q E hr h=>?_
 obtain ⟨p,dc,rfl,D,k⟩:=h
 have hr1:bR 1 _:=hr.mono (by decide)
 have hr3:bR 3 _:=hr.mono (by decide)
 refine ⟨_,(ak (bc (i:=1) JG.nd rfl (.inl rfl) (bO DF GF hr (aa (pv 0) (aa (bO DP GP hr1 (aa (pv 0) (aa aA aj))) aj))))
  (aB (aJ (bu (aa (bO DW GW hr3 (aa (pv 0) aj)) (aa (pv 1) aj)))))),?_⟩
 refine ⟨_,rfl,_,rfl,p,dc,_,rfl,D,by decide,by decide,fun m H1 m0 m1 D1 b1=>?_⟩
 refine ⟨p,dc,m,rfl,D1,m0,by lia,fun a xs fs H2 ha pf hl ok nd hn D2 b2=>?_⟩
 refine ⟨_,rfl,p,dc,rfl,D2,fun nm H3 hnm D3 b3=>⟨_,rfl,(by ext),fun t ht=>?_⟩⟩
 have ha3:H3 a=some (.tup xs):=b3 _ _ ha (D2.ne ha (by intro _ z;cases z))
 have pf3:Paired (fj H3) xs fs:=eQ pf fun b ys e=>b3 _ _ e (D2.ne e (by intro _ z;cases z))
 exact k t a nm xs fs _ au hnm (aC.new ht _ _ ha3) (eQ pf3 fun b ys e=>aC.new ht _ _ e) (by lia) ok nd (D3.new ht) (((b1.trans b2).trans b3).trans (bW.new ht))
noncomputable def Gx (K:Frag) (n:Nat):Sp:=fun vs H Q _=>∃ (a:Addr) (ds:List PyData),vs=[.ref a]/\Rep K H (.ref a) (.tuple ds)/\TD (.tuple ds)/\bI (.tuple ds)≤n/\n≤8/\∀ (l:Addr) (ws:List V) (es:List PyData) (H':Hp),aC H H'->H l=none->H' l=some (.lst ws)->bj K H' ws es->(∀ e∈es,La e)->es.length≤5 ^ n->Q (.ref l) H'
noncomputable abbrev QG:List Str:=["_law_test_here","_law_found","_law_part"]
theorem GZ:aU QG ["_law_test_here"] (aD (top 76)):=by ext
theorem IV (DL:cj K mg "_law_leaves_any" (top 76) ["_law_test_here"] f fd) (T:Txt K mg) (n:Nat):aQ P w K mg base bC n f fd ["_law_test_here"] (Gx K n):=by
 refine Nat.rec (motive:=fun n=>aQ P w K mg base bC n f fd ["_law_test_here"] (Gx K n)) ⟨fun _ _ _ _ h=>?_,fun _ _ _ _ _ _ _ _ _ _ _ _ _ h=>?_⟩ (fun n GL=>?_) n
 ·obtain ⟨a,ds,_,_,_,h,_⟩:=h
  exact absurd h (by simp [bI])
 ·obtain ⟨a,ds,_,_,_,h,_⟩:=h
  exact absurd h (by simp [bI])
 refine DL.F.ok GZ (by ext) fun cdv A outer s H vs Q E hr h=>?_
 obtain ⟨a,ds,rfl,ra,td,dp,hn,k⟩:=h
 refine ⟨_,(ak (bc (i:=1) GZ.nd rfl (.inl rfl) (eN (aH (Eu hr.units) (pv 0) (bu aj) (aN _)) (bM (aa (pv 0) aj)) (bM aj)))
  (ak (dH PassesOwn.never rfl (iB (cG gn (pv 0) (cR aA) cW)) (aK (i:=2) GZ.nd rfl (.inl rfl)) (aB
   (a_ (bU (aG bK (by rfl) T.isinstance aV (aa (pv 2) (aa (cP rfl T.tuple fu) aj)))) (aB (cJ (h_ PySem.F.plainAttrs_list PySem.F.slot_list_extend PySem.F.type_list_extend vQ (pv 1) (aa (bO DL GL hr (aa (pv 2) aj)) aj)))) aL)))
  (aB (aJ (pv 1))))),?_⟩
 have hdd:bI (.tuple ds)=bB ds+1:=rfl
 refine eU (fun σ' H'=>∃ (l:Addr) (w0:List V) (e0:List PyData),σ'=[some (.ref a),some (.ref l),none]/\aC H H'/\H l=none/\H' l=some (.lst w0)/\bj K H' w0 e0/\(∀ e∈e0,La e)/\e0.length≤1) ?nx1 fun N hN=>?st1
 case st1=>
  refine ⟨_,rfl,(by ext),fun t ht=>?_⟩
  have s0:aC H (upd H t (.tup [])):=aC.new ht
  have ht0:(upd H t (.tup [])) t=some (.tup []):=au
  generalize upd H t (.tup [])=H0 at s0 ht0 ⊢
  refine ⟨ds,[],ra.same s0,.tup (bD.of ht0) .nil,by lia,_,rfl,?_⟩
  have td0:=td
  cases td with
  |nil=>exact bJ rfl ⟨(by ext),fun l hl=>hN _ _ ⟨l,[],[],rfl,s0.trans (aC.new hl),e_ s0 hl,au,.nil,by simp,by simp⟩⟩
  | @node f r af lf nr tr=>
    refine b_ rfl ⟨_,rfl,(by ext),fun l hl=>hN _ _ ⟨l,[.ref a],[.tuple (.str f::r)],rfl,s0.trans (aC.new hl),e_ s0 hl,au,.cons ((ra.same s0).same (aC.new hl)) .nil,fun e m=>?_,by simp⟩⟩
    rw [List.mem_singleton.mp m]
    exact ⟨td0,by lia,_,_,rfl⟩
 rintro σ' H1 ⟨l,w0,e0,rfl,s1,hl,hl1,rw0,la0,c0⟩
 have inn:∀ d∈ds.drop 1,TD d/\bI d≤n:=fun d m=>by
  cases td with
  |nil=>simp at m
  | @node f r af lf nr tr=>
    have m:d∈r:=m
    exact ⟨tr d m,kO dp m⟩
 have dl:(ds.drop 1).length≤4:=by
  cases td with
  |nil=>simp
  |@node f r af lf nr tr=>exact nr
 have p5:5 ^ n≤5 ^ 7:=Nat.pow_le_pow_right (by decide) (by lia)
 have p7:(5:Nat) ^ 7=78125:=by decide
 have p1:1≤5 ^ n:=Nat.le_trans Nat.one_le_two_pow (Nat.pow_le_pow_left (by decide) n)
 have big:1000000≤sizeLine:=by decide
 cases ra with
 |@tup _ xs _ sq rs=>
 have cutt:jj xs (some 1) none=xs.drop 1:=by
  cases xs with
  |nil=>rfl
  |cons x0 ys=>exact nC
 have rsd:=jw 1 rs
 have xl:=rsd.length
 refine ⟨_,rfl,1,rfl,?_⟩
 delta mZ
 refine Qc (s1.tup sq) cutt fun v H2 s2 sv=>?_
 refine ⟨v,rfl,⟨_,sv⟩,?_⟩
 refine mW (K:=K) (a:=v) (xs:=xs.drop 1) (fun i σ' H'=>∃ ws es u,σ'=[some (.ref a),some (.ref l),u]/\aC H H'/\bD K H' v (xs.drop 1)/\H' l=some (.lst ws)/\bj K H' ws es/\(∀ e∈es,La e)/\es.length≤1+i*5 ^ n) ⟨w0,e0,none,rfl,s1.trans s2,sv,s2 _ _ hl1,rw0.same s2,la0,by lia⟩ (fun i σ' H' _ ⟨_,_,_,_,_,q,_⟩=>q) ?_ ?_
 ·rintro i y σ' H3 hy ⟨ws,es,u,rfl,s3,sv3,hl3,rws,la,c3⟩
  have i4:i<4:=by
   have:=(List.getElem?_eq_some_iff.mp hy).1
   lia
  obtain ⟨d,hd,ry⟩:=rsd.get' hy
  obtain ⟨tdd,dpd⟩:=inn d (List.mem_of_getElem? hd)
  have ry3:=ry.same s3
  have nxt:es.length≤1+(i+1)*5 ^ n:=by rw [Nat.add_mul];lia
  have tup:∀ ds1,d=.tuple ds1->∃ q1,y=.ref q1:=fun ds1 e=>by
   subst e
   cases ry with
   |@tup q1 _ _ _ _=>exact ⟨q1,rfl⟩
  have go:∀ ds1,d=.tuple ds1->∃ q1,y=.ref q1/\Rep K H3 (.ref q1) (.tuple ds1)/\TD (.tuple ds1)/\bI (.tuple ds1)≤n:=fun ds1 e=>by
   obtain ⟨q1,rfl⟩:=tup ds1 e
   subst e
   exact ⟨q1,rfl,ry3,tdd,dpd⟩
  by_cases isT:∃ ds1,d=.tuple ds1
  ·obtain ⟨ds1,e⟩:=isT
   obtain ⟨q1,rfl,rq1,td1,dp1⟩:=go ds1 e
   refine ⟨_,rfl,_,_,_,_,rfl,rq1,rfl,_,rfl,b_ rfl ?_⟩
   refine ⟨_,rfl,.inl ⟨rfl,_,bF.of hl3⟩,_,rfl,q1,ds1,rfl,rq1,td1,dp1,by lia,fun l2 w2 e2 H4 s4 hn4 hl4 r4 la4 c4=>?_⟩
   have l1:=rws.length
   have l2':=r4.length
   have hi4:i*5 ^ n≤4*5 ^ n:=Nat.mul_le_mul_right _ (by lia)
   refine ⟨l,l2,ws,w2,rfl,rfl,s4 _ _ hl3,hl4,by lia,?_⟩
   refine ⟨ws++w2,es++e2,_,rfl,fun b u' e'=>?_,qb (s4.tup sv3) (s4 _ _ hl3),au,nY (s4 _ _ hl3) (fun e' m=>?_) (gB (rws.same s4) r4),fun e' m=>?_,?_⟩
   ·rw [aX (aR e' hl)]
    exact s4 _ _ (s3 _ _ e')
   ·rcases List.mem_append.mp m with m|m
    ·exact (la e' m).1
    ·exact (la4 e' m).1
   ·rcases List.mem_append.mp m with m|m
    ·exact la e' m
    ·exact la4 e' m
   ·rw [List.length_append,Nat.add_mul]
    lia
  ·cases tdd with
   |str _ _=>exact ⟨_,rfl,_,_,_,_,rfl,ry3,rfl,_,rfl,bJ rfl ⟨ws,es,_,rfl,s3,sv3,hl3,rws,la,nxt⟩⟩
   |int _ _=>exact ⟨_,rfl,_,_,_,_,rfl,ry3,rfl,_,rfl,bJ rfl ⟨ws,es,_,rfl,s3,sv3,hl3,rws,la,nxt⟩⟩
   |nil=>exact absurd ⟨_,rfl⟩ isT
   |node af lf nr tr=>exact absurd ⟨_,rfl⟩ isT
 ·rintro σ' H3 ⟨ws,es,u,rfl,s3,sv3,hl3,rws,la,c3⟩
  refine ⟨_,rfl,k l ws es H3 s3 hl hl3 rws la ?_⟩
  have:(xs.drop 1).length*5 ^ n≤4*5 ^ n:=Nat.mul_le_mul_right _ (by lia)
  rw [Nat.pow_succ]
  lia
noncomputable def Ek (K:Frag):List V->Hp->VK->Prop:=fun xs H Q=>∃ p ys,xs=[.ref p]/\(bF K H p ys∨bD K H p ys)/\Q (.int ys.length) H
noncomputable def M4:Sp:=fun vs H Q _=>∃ (p dc a:Addr) (xs:List V) (fs:List jM),vs=[.ref p,.ref a]/\Dr H p dc/\H a=some (.tup xs)/\Paired (fj H) xs fs/\fs.length≤4/\(∀ f∈fs,lF f)/\∀ (l:Addr) (ys:List Str) (H':Hp),H' l=some (.lst (ys.map V.str))->ys≠[]->ys.length≤5->(∀ y∈ys,Nm y)->Dr H' p dc->bW p H H'->Q (.ref l) H'
theorem Ow:aU ["_law_d","_law_fields_here"] ["_law_d","_law_fields_here"] (aD (top 74)):=by ext
theorem Lb (F:fc K "_law_names_of" "_law_names_of" (top 74) f fd) (DW:cj K mg "_law_word" (top 55) ["_law_d"] fW fdW) (GW:aQ P w K mg base bC 3 fW fdW ["_law_d"] nO):aQ P w K mg base bC 4 f fd ["_law_d","_law_fields_here"] M4:=by
 refine F.ok Ow (by ext) fun cdv A outer s H vs Q E hr h=>?_
 obtain ⟨p,dc,a,xs,fs,rfl,D,ha,pf,fl,fo,k⟩:=h
 have pl:=Paired.length pf
 refine ⟨_,(aB (aJ (bh xZ (gR (g:=bG 0) (own:=["_law_field"]) (js:=[]) (N':=["_law_field"]) (bL.of (osc:=aD (top 74)) (N:=["_law_d","_law_fields_here"]) rfl rfl (by ext)) rfl (iB (pv 1)) (fun _ _ _ _ _=>(aK (i:=0) (show List.Nodup (["_law_field"]:List Str) by ext) rfl (.inl rfl) (.inr rfl))) (fun _ _ _ _ _=>dF) (fun _ _ _ _ _=>aZ (r:=oG K) aY (pv 0) aA (fun _ _=>rfl))) (bM (aa (bO DW GW hr (aa (pv 0) aj)) aj))))),?_⟩
 refine ⟨_,rfl,a,rfl,⟨xs,bD.of ha⟩,?_⟩
 refine jn (K:=K) (a:=a) (xs:=xs) (fun i zs σ' H'=>(∃ v,σ'=[v])/\H'=H/\zs=((fs.map (·.1)).take i).map V.str) (Nat.le_trans (show xs.length≤4 by lia) (by decide)) ⟨⟨none,rfl⟩,rfl,rfl⟩ (fun i zs σ' H' _ ⟨_,e,_⟩=>by rw [e];exact bD.of ha) ?_ ?_
 ·rintro i y zs σ' H2 hy hzs ⟨⟨v,rfl⟩,rfl,rfl⟩ N' hN
  obtain ⟨⟨fn,lo,hi⟩,hfi,b,rfl,hb⟩:=f9 pf hy
  refine ⟨_,rfl,b,_,_,_,rfl,rfl,bD.of hb,aF (j:=0) rfl,?_⟩
  exact hN _ _ _ (by rw [List.length_append,hzs];rfl) ⟨⟨_,rfl⟩,rfl,by rw [List.take_add_one,List.getElem?_map,hfi];simp⟩
 ·rintro zs σ' H2 hzs ⟨⟨v,rfl⟩,rfl,rfl⟩
  rw [List.take_of_length_le (by rw [List.length_map];lia)]
  refine ⟨Nat.le_trans (show ((fs.map (·.1)).map V.str).length≤4 by rw [List.length_map,List.length_map];exact fl) (by decide),fun l hl=>?_⟩
  have s1:aC H2 (upd H2 l (.lst ((fs.map (·.1)).map V.str))):=aC.new hl
  have h1:(upd H2 l (.lst ((fs.map (·.1)).map V.str))) l=some (.lst ((fs.map (·.1)).map V.str)):=au
  generalize upd H2 l (.lst ((fs.map (·.1)).map V.str))=H3 at s1 h1 ⊢
  refine ⟨_,rfl,p,dc,rfl,D.mono s1,fun nm H4 hnm D4 b4=>⟨(by ext),fun l2 hl2=>?_⟩⟩
  have h4:H4 l=some (.lst ((fs.map (·.1)).map V.str)):=b4 _ _ h1 ((D.mono s1).ne h1 (by intro _ z;cases z))
  refine ⟨l,l2,_,_,rfl,rfl,aC.new hl2 _ _ h4,au,?_,fun l3 hl3=>?_⟩
  ·have big:1000≤sizeLine:=by decide
   rw [List.length_map,List.length_map,List.length_singleton]
   lia
  ·refine k l3 (fs.map (·.1)++[nm]) _ ?_ (by simp) (by rw [List.length_append,List.length_map,List.length_singleton];lia) (fun y m=>?_) ((D4.new hl2).new hl3) (((s1.but.trans b4).trans (bW.new hl2)).trans (bW.new hl3))
   ·rw [au,List.map_append];rfl
   ·rcases List.mem_append.mp m with m|m
    ·obtain ⟨f1,m1,rfl⟩:=List.mem_map.mp m
     exact (fo f1 m1).nm
    ·rw [List.mem_singleton.mp m];exact hnm
noncomputable def L3 (e:PyData):Prop:=TD e/\bI e≤60/\∃ f d1 d2,e=.tuple [.str f,d1,d2]
theorem ints_rep:∀ ks:List Int,bj K H (ks.map V.int) (ks.map PyData.int)
 |[]=>.nil
 |y::r=>.cons (.int y) (ints_rep r)
theorem pO:∀ ks:List Int,bB (ks.map PyData.int)≤60
 |[]=>by simp [bB]
 | y::r=>by
   have:=pO r
   simp only [List.map_cons,bB,bI]
   lia
noncomputable abbrev Bx (zs:List Int) (fs:List jM):Prop:=Paired (fun (z:Int) (f:jM)=>f.2.1≤z/\z≤f.2.2) zs fs
noncomputable def Do (K:Frag):Sp:=fun vs H Q _=>∃ (p dc q a:Addr) (ds:List PyData) (xs:List V) (fs:List jM),vs=[.ref p,.ref q,.ref a]/\Dr H p dc/\Rep K H (.ref q) (.tuple ds)/\TD (.tuple ds)/\bI (.tuple ds)≤7/\H a=some (.tup xs)/\Paired (fj H) xs fs/\fs.length≤4/\(∀ f∈fs,lF f)/\
 ∀ (b:Addr) (zs:List Int) (H':Hp),H' b=some (.tup (zs.map V.int))->zs.length=fs.length->Bx zs fs->Dr H' p dc->bW p H H'->H b=none->Q (.ref b) H'
noncomputable abbrev Mq:List Str:=["_law_d","_law_test_here","_law_fields_here"]
noncomputable abbrev Pr:List Str:=["_law_d","_law_test_here","_law_fields_here","_law_asked","_law_found","_law_field","_law_near","_law_number_here"]
theorem uD:aU Pr Mq (aD (top 75)):=by ext
theorem Fx (F:fc K "_law_near_values" "_law_near_values" (top 75) f fd) (T:Txt K mg) (hmax:mg "max" = none) (DP:cj K mg "_law_pick" (top 51) ["_law_d","_law_many"] fP fdP) (DV:cj K mg "_law_value" (top 59) ["_law_d","_law_field"] fV fdV) (GV:aQ P w K mg base bC 3 fV fdV ["_law_d","_law_field"] (zL K)) (DL:cj K mg "_law_leaves_any" (top 76) ["_law_test_here"] fL fdL):aQ P w K mg base bC 8 f fd Mq (Do K):=by
 have GP:aQ P w K mg base bC 1 fP fdP ["_law_d","_law_many"] d_:=dw DP.F T
 have GL:aQ P w K mg base bC 7 fL fdL ["_law_test_here"] (Gx K 7):=IV DL T 7
 refine F.ok uD (by ext) fun cdv A outer s H vs Q E hr h=>?_
 obtain ⟨p,dc,q,a,ds,xs,fs,rfl,D,rq,td,dp,ha,pf,fl,fo,k⟩:=h
 have hr1:bR 1 _:=hr.mono (by decide)
 have hr3:bR 3 _:=hr.mono (by decide)
 refine ⟨_,(ak (eY (g:=bG 0) (i:=3) (own:=["_law_leaf_here"]) (js:=[]) (N':=["_law_leaf_here"]) (bL.of (osc:=aD (top 75)) (N:=Pr) rfl rfl (by ext)) rfl uD.nd rfl rfl (iQ (bO DL GL hr (aa (pv 1) aj))) (fun _ _ _ _ _=>(aK (i:=0) (show List.Nodup (["_law_leaf_here"]:List Str) by ext) rfl (.inl rfl) (.inr rfl)))
  (fun _ _ _ _ _=>kW (PW.pt (gW (aH (r:=M_ K false) dX (aZ (r:=oG K) aY (pv 0) aA (fun _ _=>rfl)) (bu (aa aM (aa aM aj))) rfl) (ir (aH (r:=Oo) bz (aG (r:=Ek K) aO (by rfl) T.len bH (aa (pv 0) aj)) aA (aN _)))))) (fun _ _ _ _ _=>pv 0))
  (ak (bc (i:=4) uD.nd rfl (.inl rfl) (bM aj))
  (ak (dH PassesOwn.never rfl (iB (pv 2)) (aK (i:=5) uD.nd rfl (.inr rfl)) (ak
   (eY (g:=bG 0) (i:=6) (own:=["_law_leaf_here"]) (js:=[5]) (N':=["_law_leaf_here","_law_field"]) (bL.of (osc:=aD (top 75)) (N:=Pr) rfl rfl (by ext)) rfl uD.nd rfl rfl (iQ (pv 3)) (fun _ _ _ _ _=>(aK (i:=0) (show List.Nodup (["_law_leaf_here","_law_field"]:List Str) by ext) rfl (.inl rfl) (.inr rfl)))
    (fun _ _ _ _ _=>kW (PW.pt (gW (aH (r:=Jw K) (lO hr.units) (aZ (r:=oG K) aY (pv 0) aA (fun _ _=>rfl)) (aZ (r:=oG K) aY (pv 1) aA (fun _ _=>rfl)) (aN _)) (ir (bU (aG (r:=Lh K) bK (by rfl) T.isinstance aV (aa (aZ (r:=oG K) aY (pv 0) aA (fun _ _=>rfl)) (aa (cP rfl T.int jX) aj)))))))) (fun _ _ _ _ _=>aZ (r:=oG K) aY (pv 0) aA (fun _ _=>rfl)))
   (ak (bc (i:=7) uD.nd rfl (.inl rfl) (bO DV GV hr3 (aa (pv 0) (aa (pv 5) aj))))
   (ak (a_ (PW.pt (gW (aH (Gh hr.units) (pv 6) (bM aj) (aN _)) (ir (aH nW (bO DP GP hr1 (aa (pv 0) (aa aA aj))) aA (aN _))))) (aB
    (bc (i:=7) uD.nd rfl (.inl rfl) (aG (pJ rfl) (by rfl) T.min z7 (aa (aZ aY (pv 5) aA (fun _ _=>rfl)) (aa (aG (wF rfl) (by rfl) hmax yJ (aa (aZ aY (pv 5) aA (fun _ _=>rfl)) (aa (bh dM (bh cH (aZ cF (pv 6) (bO DP GP hr1 (aa (pv 0) (aa (aG aO (by rfl) T.len bH (aa (pv 6) aj)) aj))) (fun _ _=>rfl)) (bO DP GP hr1 (aa (pv 0) (aa aA aj)))) aA) aj))) aj))))) aL)
   (aB (cJ (h_ PySem.F.plainAttrs_list PySem.F.slot_list_append PySem.F.type_list_append eZ (pv 4) (aa (pv 7) aj))))))))
  (aB (aJ (g8 iw (by rfl) T.tuple fu (aa (pv 4) aj))))))),?_⟩
 have big:1000000≤sizeLine:=by decide
 have p7:(5:Nat) ^ 7=78125:=by decide
 have pl:=Paired.length pf
 have nea:∀ {H':Hp} {b:Addr} {o:HO},H b=some o->(∀ kvs,o≠.dK kvs)->bW p H H'->H' b=some o:=fun e ne b=>b _ _ e (D.ne e ne)
 refine ⟨_,rfl,q,ds,rfl,rq,td,dp,by decide,fun l0 ws0 es0 H1 s1 hl0 hl1 r1 la1 c1=>?_⟩
 rw [p7] at c1
 have wl:=r1.length
 refine ⟨l0,rfl,⟨_,bF.of hl1⟩,?_⟩
 refine nZ (K:=K) (a:=l0) (xs:=ws0) (fun i zs σ' H'=>(∃ v,σ'=[v])/\aC H1 H'/\∃ es,bj K H' zs es/\∀ e∈es,L3 e) (by lia) ⟨⟨none,rfl⟩,aC.refl _,[],.nil,by simp⟩ (fun i zs σ' H' _ ⟨_,s',_⟩=>s'.seq (bF.of hl1)) ?_ ?_
 ·rintro i y zs σ' H2 hy ⟨⟨v,rfl⟩,s2,es,rz,l3⟩ N hN
  obtain ⟨e,he,ry⟩:=r1.get' hy
  obtain ⟨tde,dpe,g,r,rfl⟩:=la1 e (List.mem_of_getElem? he)
  have ry2:=ry.same s2
  have ry2':=ry2
  cases ry2 with
  |@tup q1 us _ sq us'=>
  obtain ⟨x0,us1,rfl⟩:∃ x0 us1,us=x0::us1:=by cases us';exact ⟨_,_,rfl⟩
  obtain ⟨h0,ht⟩:Rep K H2 x0 (.str g)/\bj K H2 us1 r:=by cases us' with|cons a b=>exact ⟨a,b⟩
  cases h0
  have ul:=ht.length
  refine ⟨_,rfl,q1,_,_,_,rfl,rfl,sq,aF (j:=0) rfl,(by ext),fun t ht'=>?_⟩
  have s3:aC H2 (upd H2 t (.tup [.str "less",.str "same"])):=aC.new ht'
  refine ⟨t,_,rfl,.inr (bD.of au),rfl,rfl,_,rfl,?_⟩
  generalize upd H2 t (.tup [.str "less",.str "same"])=H3 at s3 ⊢
  refine dC (fun _=>?_) (fun _=>bJ rfl (hN _ _ _ ⟨⟨_,rfl⟩,s2.trans s3,es,rz.same s3,l3⟩ (by simp)))
  refine ⟨_,rfl,q1,_,rfl,.inr (s3.tup sq),rfl,_,rfl,dC (fun h3=>?_) (fun _=>hN _ _ _ ⟨⟨_,rfl⟩,s2.trans s3,es,rz.same s3,l3⟩ (by simp))⟩
  obtain ⟨d1,d2,rfl⟩:∃ d1 d2,r=[d1,d2]:=by
   have:r.length=2:=by
    simp at h3
    lia
   match r,this with
   |[d1,d2],_=>exact ⟨d1,d2,rfl⟩
  refine ⟨_,rfl,hN _ _ _ ⟨⟨_,rfl⟩,s2.trans s3,es++[.tuple [.str g,d1,d2]],gB (rz.same s3) (.cons (ry2'.same s3) .nil),fun e' m=>?_⟩ (by simp)⟩
  rcases List.mem_append.mp m with m|m
  ·exact l3 e' m
  ·rw [List.mem_singleton.mp m]
   exact ⟨tde,dpe,g,d1,d2,rfl⟩
 ·rintro zs σ' H2 hz ⟨⟨v,rfl⟩,s2,es,rz,l3⟩
  refine ⟨by lia,fun la hla=>?_⟩
  have S2:=s1.trans s2
  have s3:aC H2 (upd H2 la (.lst zs)):=aC.new hla
  have h3:(upd H2 la (.lst zs)) la=some (.lst zs):=au
  generalize upd H2 la (.lst zs)=H3 at s3 h3 ⊢
  refine ⟨(by ext),fun lf hlf=>?_⟩
  have s4:aC H3 (upd H3 lf (.lst [])):=aC.new hlf
  have h4:(upd H3 lf (.lst [])) lf=some (.lst []):=au
  generalize upd H3 lf (.lst [])=H4 at s4 h4 ⊢
  have S4:=S2.trans (s3.trans s4)
  have D4:=D.mono S4
  have hlfn:H lf=none:=e_ (S2.trans s3) hlf
  have nlp:lf≠p:=(D.neN hlfn).symm
  have nld:lf≠dc:=by
   obtain ⟨ws,e⟩:=D.cell
   exact (aR e hlfn).symm
  have nla:la≠lf:=fun z=>by rw [z,hlf] at h3;cases h3
  refine ⟨_,rfl,a,rfl,⟨xs,bD.of (S4 _ _ ha)⟩,?_⟩
  refine mW (K:=K) (a:=a) (xs:=xs) (fun i σ' H'=>∃ (zs':List Int) (u5 u6 u7:Option V),σ'=[some (.ref p),some (.ref q),some (.ref a),some (.ref la),some (.ref lf),u5,u6,u7]/\Dr H' p dc/\bW p H H'/\H' la=some (.lst zs)/\bj K H' zs es/\H' lf=some (.lst (zs'.map V.int))/\zs'.length=i/\Bx zs' (fs.take i)) ⟨[],none,none,none,rfl,D4,S4.but,s4 _ _ h3,(rz.same s3).same s4,h4,rfl,.nil⟩ (fun i σ' H' _ ⟨_,_,_,_,_,_,b',_⟩=>bD.of (nea ha (by intro _ z;cases z) b')) ?_ ?_
  ·rintro i y σ' H5 hy ⟨zs',u5,u6,u7,rfl,D5,b5,hla5,rz5,hlf5,zl,bx⟩
   obtain ⟨⟨fn,lo,hi⟩,hfi,bf,rfl,hbf⟩:=f9 pf hy
   have il:i<xs.length:=(List.getElem?_eq_some_iff.mp hy).1
   have hbf5:=nea hbf (by intro _ z;cases z) b5
   refine ⟨_,rfl,la,rfl,⟨_,bF.of hla5⟩,?_⟩
   refine nZ (K:=K) (a:=la) (xs:=zs) (fun i ns σ' H'=>(∃ v,σ'=[v,some (.ref bf)])/\H'=H5/\∃ ks:List Int,ns=ks.map V.int) (by lia) ⟨⟨none,rfl⟩,rfl,[],rfl⟩ (fun i ns σ' H' _ ⟨_,e,_⟩=>by rw [e];exact bF.of hla5) ?_ ?_
   ·rintro j y ns σ' H6 hy' ⟨⟨v,rfl⟩,rfl,ks,rfl⟩ N hN
    obtain ⟨e,he,ry⟩:=rz5.get' hy'
    obtain ⟨tde,dpe,g,d1,d2,rfl⟩:=l3 e (List.mem_of_getElem? he)
    cases ry with
    |@tup q1 us _ sq us'=>
    cases us' with|@cons x0 _ us1 _ w0 w1=>
    cases w1 with|@cons x1 _ us2 _ w1 w2=>
    cases w2 with|@cons x2 _ us3 _ w2 w3=>
    cases w3
    cases tde with
    |node af lf' nr tr=>
    have e1:bI d1≤59:=kO (n:=59) dpe (by simp)
    have t2:=tr d2 (by simp)
    refine ⟨_,rfl,q1,_,_,_,rfl,rfl,sq,aF (j:=1) rfl,_,rfl,bf,_,_,_,rfl,rfl,bD.of hbf5,aF (j:=0) rfl,d1,.str fn,w1,.str _,by lia,_,rfl,dC (fun _=>?_) (fun _=>bJ rfl (hN _ _ _ ⟨⟨_,rfl⟩,rfl,ks,rfl⟩ (by simp)))⟩
    cases t2 with
    | @int i2 _ _=>
      cases w2
      refine ⟨_,rfl,q1,_,_,_,rfl,rfl,sq,aF (j:=2) rfl,_,_,_,_,rfl,.int i2,rfl,_,rfl,b_ rfl ?_⟩
      exact ⟨_,rfl,q1,_,_,_,rfl,rfl,sq,aF (j:=2) rfl,hN _ _ _ ⟨⟨_,rfl⟩,rfl,ks++[i2],by simp⟩ (by simp)⟩
    |str _ _=>exact ⟨_,rfl,q1,_,_,_,rfl,rfl,sq,aF (j:=2) rfl,_,_,_,_,rfl,w2,rfl,_,rfl,bJ rfl (hN _ _ _ ⟨⟨_,rfl⟩,rfl,ks,rfl⟩ (by simp))⟩
    |nil=>exact ⟨_,rfl,q1,_,_,_,rfl,rfl,sq,aF (j:=2) rfl,_,_,_,_,rfl,w2,rfl,_,rfl,bJ rfl (hN _ _ _ ⟨⟨_,rfl⟩,rfl,ks,rfl⟩ (by simp))⟩
    |node _ _ _ _=>exact ⟨_,rfl,q1,_,_,_,rfl,rfl,sq,aF (j:=2) rfl,_,_,_,_,rfl,w2,rfl,_,rfl,bJ rfl (hN _ _ _ ⟨⟨_,rfl⟩,rfl,ks,rfl⟩ (by simp))⟩
   ·rintro ns σ' H6 hn ⟨⟨v,rfl⟩,rfl,ks,rfl⟩
    rw [List.length_map] at hn
    refine ⟨by rw [List.length_map];lia,fun ln hln=>?_⟩
    have s7:aC H6 (upd H6 ln (.lst (ks.map V.int))):=aC.new hln
    have h7:(upd H6 ln (.lst (ks.map V.int))) ln=some (.lst (ks.map V.int)):=au
    generalize upd H6 ln (.lst (ks.map V.int))=H7 at s7 h7 ⊢
    have D7:=D5.mono s7
    refine ⟨_,rfl,_,rfl,p,dc,.ref bf,(fn,lo,hi),rfl,D7,⟨bf,rfl,s7 _ _ hbf5⟩,fo _ (List.mem_of_getElem? hfi),fun z H8 z0 z1 D8 b8=>?_⟩
    dsimp only at z0 z1
    have lh:lo≤hi:=(fo _ (List.mem_of_getElem? hfi)).le
    have b8':bW p H H8:=(b5.trans s7.but).trans b8
    have h8n:H8 ln=some (.lst (ks.map V.int)):=b8 _ _ h7 (D7.ne h7 (by intro _ z;cases z))
    have hla8:H8 la=some (.lst zs):=b8 _ _ (s7 _ _ hla5) (D7.ne (s7 _ _ hla5) (by intro _ z;cases z))
    have rz8:=D7.reps b8 (rz5.same s7)
    have hlf8:H8 lf=some (.lst (zs'.map V.int)):=b8 _ _ (s7 _ _ hlf5) nlp
    clear b8 D7 hlf5 rz5 hla5 D5 b5 s7 hln h7
    try dsimp only [bG]
    refine eU (fun σ' H'=>∃ z':Int,σ'=[some (.ref p),some (.ref q),some (.ref a),some (.ref la),some (.ref lf),some (.ref bf),some (.ref ln),some (.int z')]/\Dr H' p dc/\bW p H H'/\H' la=some (.lst zs)/\bj K H' zs es/\H' lf=some (.lst (zs'.map V.int))/\lo≤z'/\z'≤hi) ?nx2 fun N hN=>?st2
    case st2=>
     refine ⟨_,rfl,(by ext),fun l hl=>?_⟩
     have s9:aC H8 (upd H8 l (.lst [])):=aC.new hl
     have hl9:(upd H8 l (.lst [])) l=some (.lst []):=au
     generalize upd H8 l (.lst [])=H9 at s9 hl9 ⊢
     have D9:=D8.mono s9
     have b9:bW p H H9:=b8'.trans s9.but
     have h9n:=s9 _ _ h8n
     have hla9:=s9 _ _ hla8
     have rz9:=rz8.same s9
     have hlf9:=s9 _ _ hlf8
     refine ⟨ks.map PyData.int,[],.lst (bF.of h9n) (ints_rep ks),.lst (bF.of hl9) .nil,pO ks,_,rfl,?_⟩
     by_cases hk:ks=[]
     ·have e:(!cZ (ks.map PyData.int) [])=false:=by subst hk;rfl
      rw [e]
      exact bJ rfl (bJ rfl (hN _ _ ⟨z,rfl,D9,b9,hla9,rz9,hlf9,z0,z1⟩))
     ·have e:(!cZ (ks.map PyData.int) [])=true:=by
       obtain ⟨y,r,rfl⟩:=List.exists_cons_of_ne_nil hk
       rfl
      rw [e]
      have k1:0<ks.length:=List.length_pos_iff.mpr hk
      have bump:∀ {H10 H11:Hp},Dr H10 p dc->H10 ln=some (.lst (ks.map V.int))->H10 la=some (.lst zs)->bj K H10 zs es->H10 lf=some (.lst (zs'.map V.int))->bW p H10 H11->H11 ln=some (.lst (ks.map V.int))/\H11 la=some (.lst zs)/\bj K H11 zs es/\H11 lf=some (.lst (zs'.map V.int)):=fun d e1 e2 e3 e4 b=>⟨b _ _ e1 (d.ne e1 (by intro _ z;cases z)),b _ _ e2 (d.ne e2 (by intro _ z;cases z)),d.reps b e3,b _ _ e4 nlp⟩
      refine b_ rfl ⟨_,rfl,p,dc,_,rfl,D9,by decide,by decide,fun w1 H10 w0 w2 D10 b10=>?_⟩
      obtain ⟨g1,g2,g3,g4⟩:=bump D9 h9n hla9 rz9 hlf9 b10
      have b10':=b9.trans b10
      have hbf10:=nea hbf (by intro _ z;cases z) b10'
      refine ⟨_,_,rfl,rfl,_,rfl,dC (fun _=>?_) (fun _=>hN _ _ ⟨z,rfl,D10,b10',g2,g3,g4,z0,z1⟩)⟩
      refine ⟨_,rfl,bf,_,_,_,rfl,rfl,bD.of hbf10,aF (j:=2) rfl,_,rfl,bf,_,_,_,rfl,rfl,bD.of hbf10,aF (j:=1) rfl,?_⟩
      refine ⟨_,rfl,_,rfl,_,rfl,ln,_,rfl,.inl (bF.of g1),p,dc,_,rfl,D10,by rw [List.length_map];lia,by rw [List.length_map];lia,fun a' H11 a0 a1 D11 b11=>?_⟩
      obtain ⟨ka,rfl⟩:=Int.eq_ofNat_of_zero_le a0
      have ka':ka<ks.length:=by rw [List.length_map] at a1;lia
      obtain ⟨f1,f2,f3,f4⟩:=bump D10 g1 g2 g3 g4 b11
      refine ⟨ln,_,_,.int ks[ka],rfl,rfl,bF.of f1,aF (by rw [List.getElem?_map,List.getElem?_eq_getElem ka'];rfl),_,rfl,p,dc,_,rfl,D11,by decide,by decide,fun c H12 c0 c1 D12 b12=>?_⟩
      obtain ⟨e1,e2,e3,e4⟩:=bump D11 f1 f2 f3 f4 b12
      exact ⟨_,_,rfl,rfl,_,_,rfl,rfl,_,_,rfl,_,_,rfl,hN _ _ ⟨_,rfl,D12,(b10'.trans b11).trans b12,e2,e3,e4,by dsimp only;split <;> split at * <;> lia,by dsimp only;split <;> lia⟩⟩
    rintro σ' H9 ⟨z',rfl,D9,b9,hla9,rz9,hlf9,y0,y1⟩
    have zl4:zs'.length<4:=by lia
    refine ⟨_,rfl,.inl ⟨rfl,_,bF.of hlf9⟩,_,rfl,lf,_,_,rfl,rfl,hlf9,Nat.lt_of_lt_of_le (show (zs'.map V.int).length<4 by rw [List.length_map];exact zl4) (by decide),?_⟩
    refine ⟨zs'++[z'],_,_,_,rfl,D9.put nlp nld,fun b o e ne=>?_,?_,nY hlf9 (fun e m=>(l3 e m).1) rz9,?_,by rw [List.length_append,zl];rfl,?_⟩
    ·rw [aX (aR e hlfn)]
     exact b9 b o e ne
    ·rw [aX nla]
     exact hla9
    ·rw [au,List.map_append]
     rfl
    ·rw [List.take_add_one,hfi]
     exact Paired.snoc bx ⟨y0,y1⟩
  ·rintro σ' H5 ⟨zs',u5,u6,u7,rfl,D5,b5,hla5,rz5,hlf5,zl,bx⟩
   rw [pl,List.take_length] at bx
   refine ⟨_,rfl,lf,_,rfl,.inl ⟨bF.of hlf5,fun b hb=>k b zs' _ au (by lia) bx (D5.new hb) (b5.trans (bW.new hb)) ?_⟩⟩
   cases z:H b with
   |none=>rfl
   | some o=>
     by_cases e:b=p
     ·obtain ⟨kvs,e5⟩:=D5.dk
      rw [e,e5] at hb
      cases hb
     ·have:=b5 _ _ z e
      rw [hb] at this
      cases this
noncomputable def O4:List Int->List jM->Prop:=Paired fun (z:Int) (f:jM)=>f.2.1≤z/\z≤f.2.2
theorem vK:∀ {zs:List Int} {fs:List jM},O4 zs fs->zs.length=fs.length:=fun h=>Paired.length h
noncomputable abbrev PX:List Str:=["self","values","at","name","low","high","value"]
theorem wz:aU PX ["self","values"] (aD (kM 4)):=by ext
noncomputable def Dm (C:Addr):Sp:=fun vs H Q _=>∃ (o a b:Addr) (n:Str) (fs:List jM) (zs:List Int),vs=[.ref o,.ref b]/\gY C H o n a fs/\H b=some (.tup (zs.map V.int))/\O4 zs fs/\∀ H',aC H H'->Q .non H'
theorem FP (F:fc K "need" "Kind.need" (kM 4) f fd) (T:Txt K mg) (hen:mg "enumerate" = none) (hzp:mg "zip" = none) (KC:KCls K mg C) :
 aQ P w K mg base bC 1 f fd ["self","values"] (Dm C):=by
 refine F.ok wz (by ext) fun cdv A outer s H vs Q E hr h=>?_
 obtain ⟨o,a,b,n,fs,zs,rfl,⟨⟨dx,ho⟩,xs,ha,pf⟩,hb,fz,k⟩:=h
 refine ⟨_,(ak (dH PassesOwn.never rfl (zp rfl hen rfl hzp (aa (qF (pv 0) rfl) (aa (pv 1) aj))) (cD rfl (aP (aK (i:=2) wz.nd rfl (.inl rfl)) (aP (cD rfl (aP (cD rfl (aP (aK (i:=3) wz.nd rfl (.inl rfl)) (aP (aK (i:=4) wz.nd rfl (.inl rfl)) (aP (aK (i:=5) wz.nd rfl (.inl rfl)) bY)))) (aP (aK (i:=6) wz.nd rfl (.inl rfl)) bY))) bY)))
  (aB (a_ (cN (rW gO gO (pv 4) (pv 6) (pv 5))) (aB d9) aL)))
  (aB (a_ (aH mC (aG aO (by rfl) T.len bH (aa (pv 1) aj)) (aG aO (by rfl) T.len bH (aa (qF (pv 0) rfl) aj)) (aN _)) (aB d9) aL))),?_⟩
 have pl:=Paired.length pf
 have zl':(zs.map V.int).length=zs.length:=List.length_map ..
 have fl:=vK fz
 refine ⟨_,rfl,o,C,dx,_,_,rfl,ho,KC.cl,KC.nF,m6 n a,_,rfl,a,b,rfl,⟨xs,bD.of ha⟩,⟨_,bD.of hb⟩,?_⟩
 refine xf (K:=K) (a1:=a) (a2:=b) (xs:=xs) (ys:=zs.map V.int) (fun i σ' H'=>(∃ u1 u2 u3 u4 u5,σ'=[some (.ref o),some (.ref b),u1,u2,u3,u4,u5])/\aC H H') ⟨⟨none,none,none,none,none,rfl⟩,aC.refl _⟩ (fun i σ' H' _ z=>⟨bD.of (z.2 _ _ ha),bD.of (z.2 _ _ hb)⟩) ?_ ?_
 ·rintro i x y σ' H1 q p hx hy ⟨⟨u1,u2,u3,u4,u5,rfl⟩,s1⟩ hq hp
  obtain ⟨⟨m,lo,hi⟩,hfi,bb,rfl,hbb⟩:=f9 pf hx
  rw [List.getElem?_map] at hy
  obtain ⟨z,hz,rfl⟩:=Option.map_eq_some_iff.mp hy
  obtain ⟨f',hf',yb⟩:=f9 fz hz
  rw [hfi] at hf'
  cases hf'
  have s2:aC H1 (upd (upd H1 q (.tup [.ref bb,.int z])) p (.tup [.int i,.ref q])):=(aC.new hq).trans (aC.new hp)
  have hq2:(upd (upd H1 q (.tup [.ref bb,.int z])) p (.tup [.int i,.ref q])) q=some (.tup [.ref bb,.int z]):=(aC.new hp) _ _ au
  refine ⟨p,_,rfl,bD.of au,rfl,_,_,rfl,_,_,rfl,q,_,rfl,bD.of hq2,rfl,_,_,rfl,bb,_,rfl,bD.of (s2 _ _ (s1 _ _ hbb)),rfl,_,_,rfl,_,_,rfl,_,_,rfl,rfl,_,_,rfl,rfl,rfl,?_⟩
  dsimp only [bG]
  refine Aq.iff (Aq.not (Aq.test (mH.chain (mH.var rfl) (mH.var rfl) (mH.var rfl) Ar.i0 Ar.i0))) ?_
  refine dC (fun h=>?_) (fun h=>?_)
  ·exfalso
   have yb:lo≤z/\z≤hi:=yb
   simp [yb.1,yb.2] at h
  ·exact ⟨⟨_,_,_,_,_,rfl⟩,s1.trans s2⟩
 ·rintro σ' H1 ⟨⟨u1,u2,u3,u4,u5,rfl⟩,s1⟩
  refine ⟨_,rfl,b,_,rfl,.inr (bD.of (s1 _ _ hb)),_,rfl,o,C,dx,_,_,rfl,s1 _ _ ho,KC.cl,KC.nF,m6 n a,a,xs,rfl,.inr (bD.of (s1 _ _ ha)),rfl,_,rfl,bJ (by simp [pl,fl]) (k _ s1)⟩
inductive sJ:PyData->Prop
 |str {x:Str}:sJ (.str x)
 |int {i:Int}:sJ (.int i)
 |tup {ds:List PyData}:(∀ d∈ds,sJ d)->sJ (.tuple ds)
theorem TD.noL (td:TD d):sJ d:=by
 induction td with
 |str _ _=>exact .str
 |int _ _=>exact .int
 |nil=>exact .tup fun _ h=>by cases h
 | node _ _ _ _ ih=>
   refine .tup fun d h=>?_
   rcases List.mem_cons.mp h with rfl|h
   ·exact .str
   ·exact ih d h
theorem sJ.rep (f:∀ a xs,bD K H a xs->bD K H' a xs) (n:sJ d):∀ {v:V},Rep K H v d->Rep K H' v d:=by
 induction n with
 |str=>intro v r;cases r;exact .str _
 |int=>intro v r;cases r;exact .int _
 | @tup ds h ih=>
   intro v r
   cases r with
   |@tup a xs _ sq rs=>
   refine .tup (f _ _ sq) ?_
   have go:∀ {l:List PyData} {vs:List V},(∀ d∈l,d∈ds)->bj K H vs l->bj K H' vs l:=by
    intro l
    induction l with
    |nil=>intro vs _ h;cases h;exact .nil
    | cons d l il=>
      intro vs hm h
      cases h with
      |cons a b=>exact .cons (ih d (hm d (.head _)) a) (il (fun e m=>hm e (.tail _ m)) b)
   exact go (fun _ m=>m) rs
theorem sJ.reps (f:∀ a xs,bD K H a xs->bD K H' a xs):∀ {ds:List PyData} {vs:List V},(∀ d∈ds,sJ d)->bj K H vs ds->bj K H' vs ds
 |_,_,_,.nil=>.nil
 |_,_,n,.cons a b=>.cons ((n _ (.head _)).rep f a) (sJ.reps f (fun d m=>n d (.tail _ m)) b)
theorem _root_.L2.bW.sqt (b:bW l H H') (hl:H l=some (.lst ys)):∀ a xs,bD K H a xs->bD K H' a xs:=by
 rintro a xs ((h|⟨o,h⟩)|h)
 ·exact .inl (.inl (b _ _ h (gw h hl (by intro z;cases z))))
 ·exact .inl (.inr ⟨o,b _ _ h (gw h hl (by intro z;cases z))⟩)
 ·exact .inr h
theorem yc (td:TD d):∀ {e:PyData},TD e->(bV d e=true↔d=e):=by
 induction td with
 | str a b=>
   intro e te
   cases te <;> simp [bV]
 | int a b=>
   intro e te
   cases te <;> simp [bV]
 | nil=>
   intro e te
   cases te <;> simp [bV,cZ]
 | @node f r a b c tr ih=>
   intro e te
   cases te with
   |str _ _=>simp [bV]
   |int _ _=>simp [bV]
   |nil=>simp [bV,cZ]
   | @node f' r' a' b' c' tr'=>
     have:∀ (l l':List PyData),(∀ d∈l,d∈r)->(∀ d∈l',TD d)->(cZ l l'=true↔l=l'):=by
      intro l
      induction l with
      |nil=>intro l' _ _;cases l' <;> simp [cZ]
      | cons d l ihl=>
        intro l' h h'
        cases l' with
        |nil=>simp [cZ]
        | cons e l'=>
          have q1:=ih d (h d (List.mem_cons_self ..)) (h' e (List.mem_cons_self ..))
          have q2:=ihl l' (fun d m=>h d (List.mem_cons_of_mem _ m)) (fun d m=>h' d (List.mem_cons_of_mem _ m))
          simp only [cZ,Bool.and_eq_true,q1,q2,List.cons.injEq]
     have q:=this r r' (fun _ m=>m) tr'
     simp only [bV,cZ,Bool.and_eq_true,q,PyData.tuple.injEq,List.cons.injEq,PyData.str.injEq]
     simp
noncomputable abbrev Rw:=PyData×Nat×Nat
noncomputable def eE (r:Rw):PyData:=.tuple [r.1,.int r.2.1,.int r.2.2]
noncomputable def qO (nm:Str) (fs:List jM) (zs:List Int):PyData->Bool
 |.tuple (.str f::r)=>g_ nm fs zs f r
 |_=>false
noncomputable def k_ (d:PyData):Prop:=∃ f r,d=.tuple (.str f::r)/\lu f r/\¬ f = "all"
theorem k_.td (h:k_ d):TD d:=by
 obtain ⟨f,r,rfl,lf,_⟩:=h
 exact lf.tr.td
inductive Ev (pz:PyData->Bool) (L:List Rw):Nat->Bool->Prop
 |no:Ev pz L 0 false
 |yes:Ev pz L 1 true
 |row {i:Nat} {r:Rw} {b:Bool}:L[i]?=some r->Ev pz L (if pz r.1=true then r.2.1 else r.2.2) b->Ev pz L (i+2) b
structure mK (L:List Rw):Prop where
 lf:∀ r∈L,k_ r.1
 lo:∀ i r,L[i]?=some r->r.2.1<i+2/\r.2.2<i+2
theorem Ev.one (h:Ev pz L g b) (h':Ev pz L g c):b=c:=by
 induction h with
 |no=>cases h';rfl
 |yes=>cases h';rfl
 | row e _ ih=>
   cases h' with
   | row e' h'=>
     rw [e] at e'
     cases e'
     exact ih h'
theorem Ev.more (h:Ev pz L g b):Ev pz (L++M) g b:=by
 induction h with
 |no=>exact .no
 |yes=>exact .yes
 |row e _ ih=>exact .row (by rw [List.getElem?_append_left (List.getElem?_eq_some_iff.mp e).1];exact e) ih
structure Laid (pass:Str->List jM->List Int->Bool) (m y n:Nat) (L L':List Rw) (g:Nat):Prop where
 ex:∃ M,L'=L++M/\M.length≤m
 ok:mK L'
 lt:g<L'.length+2
 ev:∀ nm fs zs by' bn,Ev (qO nm fs zs) L y by'->Ev (qO nm fs zs) L n bn->Ev (qO nm fs zs) L' g (if pass nm fs zs=true then by' else bn)
theorem ux (ok:mK L):∀ d∈L.map eE,sJ d:=by
 intro d h
 obtain ⟨r,hr,rfl⟩:=List.mem_map.mp h
 refine .tup fun e he=>?_
 simp only [List.mem_cons,List.not_mem_nil,or_false] at he
 rcases he with rfl|rfl|rfl
 ·exact (ok.lf r hr).td.noL
 ·exact .int
 ·exact .int
theorem pM (ha:k_ a.1) (hb:k_ b.1):bV (eE a) (eE b)=true↔a=b:=by
 have h1:=yc ha.td hb.td
 obtain ⟨d,y,n⟩:=a
 obtain ⟨e,u,v⟩:=b
 simp [eE,bV,cZ,h1]
 lia
theorem rK (ok:mK L) (lf:k_ r.1) (hy:r.2.1<L.length+2) (hn:r.2.2<L.length+2) :
 ((L.map eE).any (fun e=>bV e (eE r))=true->Laid (fun nm fs zs=>qO nm fs zs r.1) 1 r.2.1 r.2.2 L L (2+(L.map eE).findIdx fun e=>bV e (eE r)))/\
 ((L.map eE).any (fun e=>bV e (eE r))=false->(((L++[r]).map eE).any fun e=>bV e (eE r))=true/\Laid (fun nm fs zs=>qO nm fs zs r.1) 1 r.2.1 r.2.2 L (L++[r]) (2+((L++[r]).map eE).findIdx fun e=>bV e (eE r))):=by
 have self:bV (eE r) (eE r)=true:=(pM lf lf).mpr rfl
 have ok':mK (L++[r]):=by
  refine ⟨fun q hq=>?_,fun i q hq=>?_⟩
  ·rcases List.mem_append.mp hq with hq|hq
   ·exact ok.lf q hq
   ·cases List.mem_singleton.mp hq;exact lf
  ·rw [List.getElem?_append] at hq
   split at hq
   ·exact ok.lo i q hq
   ·rename_i hi
    rw [List.getElem?_singleton] at hq
    split at hq
    ·cases hq
     lia
    ·cases hq
 have main:∀ {L':List Rw} {M:List Rw},L'=L++M->M.length≤1->mK L'->(L'.map eE).any (fun e=>bV e (eE r))=true->Laid (fun nm fs zs=>qO nm fs zs r.1) 1 r.2.1 r.2.2 L L' (2+(L'.map eE).findIdx fun e=>bV e (eE r)):=by
  intro L' M e hM ok' h
  have hj:(L'.map eE).findIdx (fun e=>bV e (eE r))<(L'.map eE).length:=List.findIdx_lt_length_of_exists (List.any_eq_true.mp h)
  have hg:=List.findIdx_getElem (p:=fun e=>bV e (eE r)) (xs:=L'.map eE) (w:=hj)
  rw [List.length_map] at hj
  rw [List.getElem_map] at hg
  have er:L'[(L'.map eE).findIdx fun e=>bV e (eE r)]=r:=(pM (ok'.lf _ (List.getElem_mem _)) lf).mp hg
  refine ⟨⟨M,e,hM⟩,ok',by lia,fun nm fs zs by' bn h1 h2=>?_⟩
  rw [Nat.add_comm]
  refine .row (r:=r) (by rw [List.getElem?_eq_getElem hj,er]) ?_
  subst e
  cases qO nm fs zs r.1 with
  |true=>exact h1.more
  |false=>exact h2.more
 refine ⟨fun h=>main (M:=[]) (by simp) (by simp) ok h,fun h=>?_⟩
 have h':(((L++[r]).map eE).any fun e=>bV e (eE r))=true:=by
  rw [List.map_append,List.any_append,List.map_singleton,List.any_cons,self]
  simp
 exact ⟨h',main (M:=[r]) rfl (by simp) ok' h'⟩
theorem vM (ok:mK L) (hy:y<L.length+2):Laid pass m y y L L y:=
 ⟨⟨[],by simp,by simp⟩,ok,hy,fun nm fs zs by' bn h1 h2=>by rw [h1.one h2];simp;exact h2⟩
theorem zB (ok:mK L) (hy:y<L.length+2):Laid (fun _ _ _=>true) m y n L L y:=
 ⟨⟨[],by simp,by simp⟩,ok,hy,fun nm fs zs by' bn h1 h2=>h1⟩
noncomputable def layR (L:List Rw) (r:Rw):List Rw×Nat:=
 if r.2.1=r.2.2 then (L,r.2.1) else if (L.map eE).any (fun e=>bV e (eE r))=true then (L,2+(L.map eE).findIdx fun e=>bV e (eE r)) else (L++[r],2+((L++[r]).map eE).findIdx fun e=>bV e (eE r))
theorem nJ (ok:mK L) (lf:k_ r.1) (hy:r.2.1<L.length+2) (hn:r.2.2<L.length+2):Laid (fun nm fs zs=>qO nm fs zs r.1) 1 r.2.1 r.2.2 L (layR L r).1 (layR L r).2:=by
 unfold layR
 obtain ⟨k1,k2⟩:=rK ok lf hy hn
 by_cases e:r.2.1=r.2.2
 ·rw [if_pos e,← e]
  exact vM ok hy
 ·rw [if_neg e]
  cases h:(L.map eE).any fun e=>bV e (eE r) with
  |true=>rw [if_pos rfl];exact k1 h
  |false=>rw [if_neg Bool.false_ne_true];exact (k2 h).2
theorem Laid.not (h:Laid pass m n y L L' g):Laid (fun nm fs zs=>!pass nm fs zs) m y n L L' g:=
 ⟨h.ex,h.ok,h.lt,fun nm fs zs by' bn h1 h2=>by
  have:=h.ev nm fs zs bn by' h2 h1
  try dsimp only
  cases hp:pass nm fs zs <;> rw [hp] at this <;> exact this⟩
theorem Laid.len (h:Laid pass m y n L L' g):L.length≤L'.length/\L'.length≤L.length+m:=by
 obtain ⟨M,rfl,hM⟩:=h.ex
 rw [List.length_append]
 lia
theorem Laid.evs (h:Laid pass m y n L L' g) (e:Ev pz L k b):Ev pz L' k b:=by
 obtain ⟨M,rfl,hM⟩:=h.ex
 exact e.more
theorem Laid.and (h2:Laid p2 m2 y n L L1 g1) (h1:Laid p1 m1 g1 n L1 L2 g2):Laid (fun nm fs zs=>p1 nm fs zs && p2 nm fs zs) (m1+m2) y n L L2 g2:=by
 obtain ⟨M1,e1,l1⟩:=h2.ex
 obtain ⟨M2,e2,l2⟩:=h1.ex
 refine ⟨⟨M1++M2,by rw [e2,e1,List.append_assoc],by rw [List.length_append];lia⟩,h1.ok,h1.lt,fun nm fs zs by' bn a b=>?_⟩
 have:=h1.ev nm fs zs _ _ (h2.ev nm fs zs _ _ a b) (h2.evs b)
 try dsimp only
 cases hp:p1 nm fs zs <;> rw [hp] at this <;> simpa using this
theorem Laid.or (h2:Laid p2 m2 y n L L1 g1) (h1:Laid p1 m1 y g1 L1 L2 g2):Laid (fun nm fs zs=>p1 nm fs zs || p2 nm fs zs) (m1+m2) y n L L2 g2:=by
 obtain ⟨M1,e1,l1⟩:=h2.ex
 obtain ⟨M2,e2,l2⟩:=h1.ex
 refine ⟨⟨M1++M2,by rw [e2,e1,List.append_assoc],by rw [List.length_append];lia⟩,h1.ok,h1.lt,fun nm fs zs by' bn a b=>?_⟩
 have:=h1.ev nm fs zs _ _ (h2.evs a) (h2.ev nm fs zs _ _ a b)
 try dsimp only
 cases hp:p1 nm fs zs <;> rw [hp] at this <;> simpa using this
structure tE (mg:Str->Option Value):Prop where
 no:∃ t,mg "NO" = some (.int 0 t)
 yes:∃ t,mg "YES" = some (.int 1 t)
 row:∃ t,mg "ROW" = some (.int 2 t)
theorem qm (ok:mK L):bB (L.map eE)≤60:=by
 have go:∀ l:List PyData,(∀ d∈l,bI d≤2)->bB l≤2:=by
  intro l
  induction l with
  |nil=>intro _;simp [bB]
  | cons d l ih=>
    intro h
    have h1:=h d (.head _)
    have h2:=ih fun e m=>h e (.tail _ m)
    simp only [bB]
    lia
 refine Nat.le_trans (go _ fun d hd=>?_) (by decide)
 obtain ⟨r,hr,rfl⟩:=List.mem_map.mp hd
 obtain ⟨f,q,e,lf,_⟩:=ok.lf r hr
 have:=lf.tr.dp
 rw [← e] at this
 simp only [eE,bI,bB]
 lia
theorem ii:decide (V.int i=V.int j)=decide (i=j):=by simp
noncomputable def qG (K:Frag) (H:Hp) (l:Addr) (L:List Rw):Prop:=∃ xs,H l=some (.lst xs)/\bj K H xs (L.map eE)
theorem _root_.L2.aQ.wk (G:aQ P w K mg base CX k f fd ps sp) (h:∀ vs H Q E,sp' vs H Q E->sp vs H Q E):aQ P w K mg base CX k f fd ps sp':=
 ⟨fun vs H Q E z=>G.1 vs H Q E (h _ _ _ _ z),fun a1 a2 a3 a4 a5 a6 a7 a8 a9 a10 a11 a12 a13 z=>G.2 a1 a2 a3 a4 a5 a6 a7 a8 a9 a10 a11 a12 a13 (h _ _ _ _ z)⟩
noncomputable def L_ (K:Frag):Sp:=fun vs H Q _=>∃ (x:V) (d:PyData) (y n:Nat) (l:Addr) (L:List Rw),vs=[x,.int y,.int n,.ref l]/\Rep K H x d/\k_ d/\qG K H l L/\mK L/\L.length≤100/\y<L.length+2/\n<L.length+2/\
 ∀ (g:Nat) L' H',Laid (fun nm fs zs=>qO nm fs zs d) 1 y n L L' g->qG K H' l L'->bW l H H'->Q (.int g) H'
noncomputable def Ea (K:Frag):Sp:=fun vs H Q _=>∃ (x:V) (d:PyData) (y n:Nat) (l:Addr) (L:List Rw),vs=[x,.int y,.int n,.ref l]/\Rep K H x d/\k_ d/\qG K H l L/\mK L/\L.length≤100/\y<L.length+2/\n<L.length+2/\
 ∀ H',qG K H' l (layR L (d,y,n)).1->bW l H H'->Q (.int (layR L (d,y,n)).2) H'
noncomputable abbrev F_:List Str:=["leaf","yes","no","laid"]
noncomputable abbrev QC:List Str:=["leaf","yes","no","laid","row"]
theorem LC:aU QC F_ (aD (top 42)):=by ext
theorem ye (F:fc K "lay_row" "lay_row" (top 42) f fd) (TW:tE mg):aQ P w K mg base bC 1 f fd F_ (Ea K):=by
 refine F.ok LC (by ext) fun cdv A outer s H vs Q E hr h=>?_
 obtain ⟨x,d,y,n,l,L,rfl,rd,lf,⟨xs,hl,rs⟩,ok,ll,hy,hn,k⟩:=h
 obtain ⟨t2,mr⟩:=TW.row
 refine ⟨_,(ak (a_ (aH bz (pv 1) (pv 2) (aN _)) (aB (aJ (pv 1))) aL)
  (ak (bc (i:=4) LC.nd rfl (.inl rfl) (bu (aa (pv 0) (aa (pv 1) (aa (pv 2) aj)))))
  (ak (a_ (aH (xm hr.units) (pv 4) (pv 3) rfl) (aB (cJ (h_ PySem.F.plainAttrs_list PySem.F.slot_list_append PySem.F.type_list_append eZ (pv 3) (aa (pv 4) aj)))) aL)
  (aB (aJ (bh cH (cB (v:=.int 2) rfl mr ⟨_,rfl⟩) (h_ PySem.F.plainAttrs_list PySem.F.slot_list_index PySem.F.type_list_index (xM hr.units) (pv 3) (aa (pv 4) aj)))))))),?_⟩
 refine ⟨_,rfl,_,rfl,rfl,_,rfl,?_⟩
 rw [ii]
 by_cases e:y=n
 ·subst e
  have e0:layR L (d,y,y)=(L,y):=if_pos rfl
  rw [e0] at k
  exact b_ (by simp) ⟨_,rfl,k H ⟨xs,hl,rs⟩ bW.refl⟩
 unfold layR at k
 rw [if_neg (show ¬ (d,y,n).2.1=(d,y,n).2.2 from e)] at k
 refine bJ (by simp;lia) ?_
 refine ⟨_,rfl,_,rfl,_,rfl,(by ext),fun p hp=>?_⟩
 have s1:aC H (upd H p (.tup [x,.int y,.int n])):=aC.new hp
 have rp:Rep K (upd H p (.tup [x,.int y,.int n])) (.ref p) (eE (d,y,n)):=.tup (bD.of au) (.cons (rd.same s1) (.cons (.int _) (.cons (.int _) .nil)))
 generalize upd H p (.tup [x,.int y,.int n])=H1 at s1 rp ⊢
 have hl1:=s1 _ _ hl
 have rs1:=rs.same s1
 obtain ⟨k1,k2⟩:=rK (r:=(d,y,n)) ok lf hy hn
 have b1:bW l H H1:=fun b o e _=>s1 _ _ e
 refine ⟨_,rfl,_,rfl,l,xs,L.map eE,eE (d,y,n),rp,rfl,bF.of hl1,rs1,qm ok,_,rfl,?_⟩
 cases h:(L.map eE).any fun e=>bV e (eE (d,y,n)) with
 | true=>
   refine bJ rfl ?_
   refine ⟨_,rfl,.inl ⟨rfl,_,bF.of hl1⟩,_,rfl,l,_,_,xs,_,rfl,rfl,rp,bF.of hl1,rs1,qm ok,h,_,_,rfl,rfl,?_⟩
   rw [h,if_pos rfl] at k
   have:=k H1 ⟨xs,hl1,rs1⟩ b1
   rw [Int.natCast_add] at this
   exact this
 | false=>
   obtain ⟨h',lk⟩:=k2 h
   refine b_ rfl ?_
   have xl:=rs1.length
   rw [List.length_map] at xl
   refine ⟨_,rfl,.inl ⟨rfl,_,bF.of hl1⟩,_,rfl,l,xs,_,rfl,rfl,hl1,gf (by lia),?_⟩
   have b2:bW l H1 (upd H1 l (.lst (xs++[.ref p]))):=bW.upd
   have f2:=b2.sqt (K:=K) hl1
   have hl2:upd H1 l (.lst (xs++[.ref p])) l=some (.lst (xs++[.ref p])):=au
   have rp2:Rep K (upd H1 l (.lst (xs++[.ref p]))) (.ref p) (eE (d,y,n)):=(ux lk.ok _ (List.mem_map.mpr ⟨(d,y,n),by simp,rfl⟩)).rep f2 rp
   have rs2:bj K (upd H1 l (.lst (xs++[.ref p]))) (xs++[.ref p]) ((L++[(d,y,n)]).map eE):=by
    rw [List.map_append]
    exact gB (sJ.reps f2 (ux ok) rs1) (.cons rp2 .nil)
   generalize upd H1 l (.lst (xs++[.ref p]))=H2 at b2 f2 hl2 rp2 rs2 ⊢
   refine ⟨_,rfl,.inl ⟨rfl,_,bF.of hl2⟩,_,rfl,l,_,_,_,_,rfl,rfl,rp2,bF.of hl2,rs2,qm lk.ok,h',_,_,rfl,rfl,?_⟩
   rw [h,if_neg Bool.false_ne_true] at k
   have:=k H2 ⟨_,hl2,rs2⟩ (b1.trans b2)
   rw [Int.natCast_add] at this
   exact this
theorem Iu (F:fc K "lay_row" "lay_row" (top 42) f fd) (TW:tE mg):aQ P w K mg base bC 1 f fd F_ (L_ K):=
 (ye F TW).wk fun vs H Q E ⟨x,d,y,n,l,L,e,rd,lf,ld,ok,ll,hy,hn,k⟩=>⟨x,d,y,n,l,L,e,rd,lf,ld,ok,ll,hy,hn,fun H' ld' b=>k _ _ H' (nJ (r:=(d,y,n)) ok lf hy hn) ld' b⟩
theorem Laid.by (h:Laid p m y n L L' g) (e:∀ nm fs zs,p nm fs zs=q nm fs zs) (hm:m≤m'):Laid q m' y n L L' g:=by
 obtain ⟨M,e1,l1⟩:=h.ex
 exact ⟨⟨M,e1,by lia⟩,h.ok,h.lt,fun nm fs zs a b x y=>by rw [← e];exact h.ev nm fs zs a b x y⟩
noncomputable def E_ (K:Frag) (n:Nat):Sp:=fun vs H Q _=>∃ (q:Addr) (f:Str) (r:List PyData) (y m:Nat) (l:Addr) (L:List Rw),vs=[.ref q,.int y,.int m,.ref l]/\Rep K H (.ref q) (.tuple (.str f::r))/\TD (.tuple (.str f::r))/\bQ (.tuple (.str f::r))=true/\bT (.tuple (.str f::r))≤n/\
 qG K H l L/\mK L/\L.length+(sE (.tuple (.str f::r))).length≤100/\y<L.length+2/\m<L.length+2/\
 ∀ (g:Nat) L' H',Laid (fun nm fs zs=>cu nm fs zs n f r) (sE (.tuple (.str f::r))).length y m L L' g->qG K H' l L'->bW l H H'->Q (.int g) H'
noncomputable abbrev H_:List Str:=["test","yes","no","laid"]
noncomputable abbrev Qk:List Str:=["test","yes","no","laid","form"]
theorem Jp:aU Qk H_ (aD (top 41)):=by ext
theorem Ii (D:cj K mg "lay_test" (top 41) H_ f fd) (DR:cj K mg "lay_row" (top 42) F_ fR fdR) (GR:aQ P w K mg base bC 1 fR fdR F_ (L_ K)) (n:Nat):aQ P w K mg base bC (n+1) f fd H_ (E_ K n):=by
 refine Nat.rec (motive:=fun n=>aQ P w K mg base bC (n+1) f fd H_ (E_ K n)) ⟨fun _ _ _ _ h=>?_,fun _ _ _ _ _ _ _ _ _ _ _ _ _ h=>?_⟩ (fun n GL=>?_) n
 ·obtain ⟨q,f,r,y,m,l,L,_,_,_,_,h,_⟩:=h
  exact absurd (Nat.le_trans (eF _) h) (by decide)
 ·obtain ⟨q,f,r,y,m,l,L,_,_,_,_,h,_⟩:=h
  exact absurd (Nat.le_trans (eF _) h) (by decide)
 refine D.F.ok Jp (by ext) fun cdv A outer s H vs Q E hr h=>?_
 obtain ⟨q,f,r,y,m,l,L,rfl,rq,td,sh,de,⟨xs,hl,rs0⟩,ok,ll,hy,hm,k⟩:=h
 have hr1:bR 1 _:=hr.mono (show 1≤n+1 by lia)
 refine ⟨_,(ak (bc (i:=4) Jp.nd rfl (.inl rfl) (aZ aY (pv 0) aA (fun _ _=>rfl)))
  (ak (a_ (aH bz (pv 4) aM (aN _)) (aB (aJ (pv 1))) aL)
  (ak (a_ (aH bz (pv 4) aM (aN _)) (aB (aJ (bO D GL hr (aa (aZ aY (pv 0) aA (fun _ _=>rfl)) (aa (pv 2) (aa (pv 1) (aa (pv 3) aj))))))) aL)
  (ak (a_ (aH bz (pv 4) aM (aN _)) (aB (aJ (bO D GL hr (aa (aZ aY (pv 0) aA (fun _ _=>rfl)) (aa (bO D GL hr (aa (aZ aY (pv 0) aA (fun _ _=>rfl)) (aa (pv 1) (aa (pv 2) (aa (pv 3) aj))))) (aa (pv 2) (aa (pv 3) aj))))))) aL)
  (ak (a_ (aH bz (pv 4) aM (aN _)) (aB (aJ (bO D GL hr (aa (aZ aY (pv 0) aA (fun _ _=>rfl)) (aa (pv 1) (aa (bO D GL hr (aa (aZ aY (pv 0) aA (fun _ _=>rfl)) (aa (pv 1) (aa (pv 2) (aa (pv 3) aj))))) (aa (pv 3) aj))))))) aL)
  (aB (aJ (bO DR GR hr1 (aa (pv 0) (aa (pv 1) (aa (pv 2) (aa (pv 3) aj)))))))))))),?_⟩
 have rq0:=rq
 have td0:=td
 cases td with
 |node af lf nr tr=>
 cases rq with
 |@tup _ us _ sq rs=>
 obtain ⟨x0,ys,rfl⟩:∃ x0 ys,us=x0::ys:=by cases rs;exact ⟨_,_,rfl⟩
 obtain ⟨r0,rt⟩:Rep K H x0 (.str f)/\bj K H ys r:=by cases rs with|cons a b=>exact ⟨a,b⟩
 cases r0
 refine ⟨_,rfl,q,_,_,_,rfl,rfl,sq,aF (j:=0) rfl,_,rfl,rfl,_,rfl,?_⟩
 have el:sE (.tuple (.str f::r))=if (arity f).isSome=true then kJ r else [.tuple (.str f::r)]:=rfl
 by_cases ha:f = "all"
 ·subst ha
  refine b_ (by ext) ⟨_,rfl,k y L H ?_ ⟨xs,hl,rs0⟩ bW.refl⟩
  refine (zB (m:=0) (n:=m) ok hy).by (fun nm fs zs=>?_) (Nat.zero_le _)
  unfold cu
  rw [if_neg (by ext),if_neg (by ext),if_neg (by ext)]
  unfold g_
  rw [if_pos rfl]
 refine bJ (fQ ha) ⟨_,rfl,rfl,_,rfl,?_⟩
 rcases iZ sh de with ⟨hna,hlf⟩|N
 ·obtain ⟨n1,n2,n3⟩:=jA hna
  rw [hna] at el
  have el:sE (.tuple (.str f::r))=[.tuple (.str f::r)]:=el
  rw [el] at k ll
  refine bJ (fQ n1) ⟨_,rfl,rfl,_,rfl,bJ (fQ n2) ⟨_,rfl,rfl,_,rfl,bJ (fQ n3) ?_⟩⟩
  refine ⟨_,rfl,_,rfl,_,rfl,_,rfl,.ref q,_,y,m,l,L,rfl,rq0,⟨f,r,rfl,qw hlf,ha⟩,⟨xs,hl,rs0⟩,ok,by lia,hy,hm,fun g L' H' la ld b=>k g L' H' (la.by (fun nm fs zs=>?_) (Nat.le_refl _)) ld b⟩
  unfold cu
  rw [if_neg n1,if_neg n2,if_neg n3]
  rfl
 ·have el:sE (.tuple (.str f::r))=kJ r:=by rw [el,N.ar];rfl
  rcases pP N tr with ⟨rfl,g,u,rfl⟩|⟨hf,g,u,h,v,rfl⟩
  ·rw [iJ] at el
   rw [el] at k ll
   cases rt with
   |@cons y1 _ y2 _ r1 r2=>
   cases r2
   cases r1 with
   |@tup q1 z1 _ s1 t1=>
   refine b_ (by ext) ⟨_,rfl,q,_,_,_,rfl,rfl,sq,aF (j:=1) rfl,_,rfl,_,rfl,_,rfl,q1,g,u,m,y,l,L,rfl,.tup s1 t1,tr _ (by simp),N.sh _ (by simp),N.de _ (by simp),⟨xs,hl,rs0⟩,ok,ll,hm,hy,fun g' L' H' la ld b=>k g' L' H' (la.not.by (fun nm fs zs=>?_) (Nat.le_refl _)) ld b⟩
   conv=>rhs;unfold cu
   rw [if_pos rfl]
  ·have e2:kJ [.tuple (.str g::u),.tuple (.str h::v)]=sE (.tuple (.str g::u))++sE (.tuple (.str h::v)):=by rw [show [PyData.tuple (.str g::u),PyData.tuple (.str h::v)]=[.tuple (.str g::u)]++[.tuple (.str h::v)] from rfl,nT,iJ,iJ]
   rw [el,e2,List.length_append] at k ll
   cases rt with
   |@cons y1 _ y2 _ r1 r2=>
   cases r2 with
   |@cons y3 _ y4 _ r2 r3=>
   cases r3
   cases r1 with
   |@tup q1 z1 _ s1 t1=>
   cases r2 with
   |@tup q2 z2 _ s2 t2=>
   have n1:¬ f = "not":=by rcases hf with rfl|rfl <;> decide +kernel
   refine bJ (fQ n1) ⟨_,rfl,rfl,_,rfl,?_⟩
   have i1:∀ {H1:Hp},bW l H H1->Rep K H1 (.ref q1) (.tuple (.str g::u)):=fun b=>(tr _ (by simp)).noL.rep (b.sqt hl) (.tup s1 t1)
   rcases hf with rfl|rfl
   ·refine b_ (by ext) ⟨_,rfl,q,_,_,_,rfl,rfl,sq,aF (j:=1) rfl,_,rfl,q,_,_,_,rfl,rfl,sq,aF (j:=2) rfl,_,rfl,_,rfl,_,rfl,q2,h,v,y,m,l,L,rfl,.tup s2 t2,tr _ (by simp),N.sh _ (by simp),N.de _ (by simp),⟨xs,hl,rs0⟩,ok,by lia,hy,hm,fun g1 L1 H1 la1 ld1 b1=>?_⟩
    have l1:=la1.len
    refine ⟨_,rfl,_,rfl,q1,g,u,g1,m,l,L1,rfl,i1 b1,tr _ (by simp),N.sh _ (by simp),N.de _ (by simp),ld1,la1.ok,by lia,la1.lt,by lia,fun g2 L2 H2 la2 ld2 b2=>k g2 L2 H2 ((la1.and la2).by (fun nm fs zs=>?_) (Nat.le_refl _)) ld2 (b1.trans b2)⟩
    conv=>rhs;unfold cu
    rw [if_neg (by ext),if_pos rfl]
   ·refine bJ (by ext) ⟨_,rfl,rfl,_,rfl,b_ (by ext) ⟨_,rfl,q,_,_,_,rfl,rfl,sq,aF (j:=1) rfl,_,rfl,_,rfl,q,_,_,_,rfl,rfl,sq,aF (j:=2) rfl,_,rfl,_,rfl,_,rfl,q2,h,v,y,m,l,L,rfl,.tup s2 t2,tr _ (by simp),N.sh _ (by simp),N.de _ (by simp),⟨xs,hl,rs0⟩,ok,by lia,hy,hm,fun g1 L1 H1 la1 ld1 b1=>?_⟩⟩
    have l1:=la1.len
    refine ⟨_,rfl,q1,g,u,y,g1,l,L1,rfl,i1 b1,tr _ (by simp),N.sh _ (by simp),N.de _ (by simp),ld1,la1.ok,by lia,by lia,la1.lt,fun g2 L2 H2 la2 ld2 b2=>k g2 L2 H2 ((la1.or la2).by (fun nm fs zs=>?_) (Nat.le_refl _)) ld2 (b1.trans b2)⟩
    conv=>rhs;unfold cu
    rw [if_neg (by ext),if_neg (by ext),if_pos rfl]
noncomputable abbrev gC:=Bool ⊕ Nat
noncomputable def jV:gC->V
 |.inl b=>.bl b
 |.inr n=>.int n
noncomputable def jD:gC->PyData
 |.inl b=>.bool b
 |.inr n=>.int n
theorem Ex (K:Frag) (H:Hp):∀ j:gC,Rep K H (jV j) (jD j)
 |.inl b=>.bl b
 |.inr n=>.int n
noncomputable abbrev jb:=PyData×gC×gC
noncomputable def jN (r:jb):PyData:=.tuple [r.1,jD r.2.1,jD r.2.2]
noncomputable def j6 (i n:Nat):gC->Prop
 |.inl _=>True
 |.inr k=>i<k/\k<n
structure Q8 (W:List jb):Prop where
 lf:∀ r∈W,k_ r.1
 jp:∀ i r,W[i]?=some r->j6 i W.length r.2.1/\j6 i W.length r.2.2
noncomputable def eO (st:gC) (W:List jb):Prop:=(∃ b,st=.inl b/\W=[])∨(st=.inr 0/\0<W.length/\Q8 W)
inductive Wk (pz:PyData->Bool) (W:List jb):gC->Bool->Prop
 |fin {b:Bool}:Wk pz W (.inl b) b
 |row {k:Nat} {r:jb} {b:Bool}:W[k]?=some r->Wk pz W (if pz r.1=true then r.2.1 else r.2.2) b->Wk pz W (.inr k) b
inductive Wn (pz:PyData->Bool) (W:List jb):gC->Bool->Nat->Prop
 |fin {b:Bool}:Wn pz W (.inl b) b 0
 |row {k:Nat} {r:jb} {b:Bool} {n:Nat}:W[k]?=some r->Wn pz W (if pz r.1=true then r.2.1 else r.2.2) b n->Wn pz W (.inr k) b (n+1)
structure xR (L:List Rw) (g i:Nat) (O R:List Nat):Prop where
 dec:O.Pairwise (· > ·)
 bd:∀ n∈O,2≤n/\n≤g/\g<n+i
 hd:1≤i->O[0]?=some g
 rg:g∈R
 rr:∀ n∈O,∀ r,L[n-2]?=some r->r.2.1∈R/\r.2.2∈R
 cl:∀ n∈R,2≤n->n≤g->g<n+i->n∈O
 ol:O.length≤i
 rl:R.length≤1+2*i
theorem xR.zero:xR L g 0 [] [g]:=
 ⟨.nil,(fun _ h=>by cases h),fun h=>by lia,by simp,(fun _ h=>by cases h),fun n h _ _ _=>by lia,by simp,by simp⟩
theorem xR.skip (o:xR L g i O R) (hi:i+2≤g) (hn:g-i∉R):xR L g (i+1) O R:=by
 refine ⟨o.dec,fun n h=>?_,fun h=>?_,o.rg,o.rr,fun n h h2 hg hc=>?_,?_,?_⟩
 ·have:=o.bd n h;lia
 ·by_cases h0:i=0
  ·subst h0
   exact absurd o.rg (by simpa using hn)
  ·exact o.hd (by lia)
 ·by_cases e:n=g-i
  ·subst e;exact absurd h hn
  ·exact o.cl n h h2 hg (by lia)
 ·have:=o.ol;lia
 ·have:=o.rl;lia
theorem xR.take (ok:mK L) (o:xR L g i O R) (hi:i+2≤g) (hn:g-i∈R) (hr:L[g-i-2]?=some r):xR L g (i+1) (O++[g-i]) (R++[r.2.1,r.2.2]):=by
 have lo:=ok.lo _ _ hr
 refine ⟨?_,fun n h=>?_,fun h=>?_,List.mem_append_left _ o.rg,fun n h q hq=>?_,fun n h h2 hg hc=>?_,?_,?_⟩
 ·rw [List.pairwise_append]
  refine ⟨o.dec,.cons (fun _ h=>by cases h) .nil,fun a ha b hb=>?_⟩
  cases List.mem_singleton.mp hb
  have:=o.bd a ha
  show g-i<a
  lia
 ·rcases List.mem_append.mp h with h|h
  ·have:=o.bd n h;lia
  ·cases List.mem_singleton.mp h;lia
 ·by_cases h0:i=0
  ·subst h0
   have:=o.ol
   have:O=[]:=List.eq_nil_of_length_eq_zero (by lia)
   subst this
   simp
  ·have:=o.hd (by lia)
   rw [List.getElem?_append_left (List.getElem?_eq_some_iff.mp this).1]
   exact this
 ·rcases List.mem_append.mp h with h|h
  ·have:=o.rr n h q hq
   exact ⟨List.mem_append_left _ this.1,List.mem_append_left _ this.2⟩
  ·cases List.mem_singleton.mp h
   rw [hr] at hq
   cases hq
   exact ⟨List.mem_append_right _ (by simp),List.mem_append_right _ (by simp)⟩
 ·rcases List.mem_append.mp h with h|h
  ·by_cases e:n=g-i
   ·subst e;exact List.mem_append_right _ (by simp)
   ·exact List.mem_append_left _ (o.cl n h h2 hg (by lia))
  ·simp only [List.mem_cons,List.not_mem_nil,or_false] at h
   rcases h with rfl|rfl <;> lia
 ·rw [List.length_append];have:=o.ol;simp;lia
 ·rw [List.length_append];have:=o.rl;simp;lia
noncomputable def dZ (L:List Rw) (n:Nat):Rw:=(L[n-2]?).getD (.none,0,0)
noncomputable def j8 (L:List Rw) (g:Nat):Nat->List Nat×List Nat
 |0=>([],[g])
 |i+1=>if g-i∈(j8 L g i).2 then ((j8 L g i).1++[g-i],(j8 L g i).2++[(dZ L (g-i)).2.1,(dZ L (g-i)).2.2]) else j8 L g i
theorem gQ (h:n-2<L.length):L[n-2]?=some (dZ L n):=by
 unfold dZ
 rw [List.getElem?_eq_getElem h]
 rfl
theorem jB (ok:mK L) (hl:g<L.length+2):∀ {i:Nat},i+1≤g->xR L g i (j8 L g i).1 (j8 L g i).2
 |0,_=>xR.zero
 | i+1,h=>by
   have o:=jB ok hl (i:=i) (by lia)
   unfold j8
   by_cases hm:g-i∈(j8 L g i).2
   ·rw [if_pos hm]
    exact o.take ok (by lia) hm (gQ (by lia))
   ·rw [if_neg hm]
    exact o.skip (by lia) hm
noncomputable def jK (O:List Nat) (m:Nat):gC:=if m=0 then .inl false else if m=1 then .inl true else .inr (O.idxOf m)
noncomputable def jE (O:List Nat) (r:Rw):jb:=(r.1,jK O r.2.1,jK O r.2.2)
theorem m5 {t:List Nat} (h:¬ x=a):(x::t).idxOf a=t.idxOf a+1:=by
 rw [List.idxOf_cons,show (x == a)=false from by simp [h]]
 rfl
theorem qH:∀ {O:List Nat} {a b:Nat},O.Pairwise (· > ·)->a∈O->b∈O->b<a->O.idxOf a<O.idxOf b
 | x::t,a,b,h,ha,hb,hlt=>by
   cases h with
   |cons h1 h2=>
   by_cases e:x=a
   ·subst e
    rw [List.idxOf_cons_self,m5 (by lia)]
    lia
   ·by_cases e':x=b
    ·subst e'
     rcases List.mem_cons.mp ha with z|z
     ·lia
     ·have:=h1 a z;lia
    ·rw [m5 e,m5 e']
     have:=qH h2 ((List.mem_cons.mp ha).resolve_left fun z=>e z.symm) ((List.mem_cons.mp hb).resolve_left fun z=>e' z.symm) hlt
     lia
theorem Hi (ok:mK L) (hg:2≤g) (hl:g<L.length+2) (o:xR L g (g-1) O R) (hw:∀ j:Nat,W[j]?=(O[j]?).bind fun n=>(L[n-2]?).map (jE O)) (wl:W.length=O.length) :
 eO (.inr 0) W/\W.length≤L.length/\∀ pz b,Ev pz L g b->Wk pz W (.inr 0) b:=by
 have nd:O.Nodup:=o.dec.imp fun h=>by lia
 have h0:=o.hd (by lia)
 have ol:=o.ol
 have pos:0<O.length:=(List.getElem?_eq_some_iff.mp h0).1
 have cl:∀ n∈O,∀ r,L[n-2]?=some r->∀ m,m=r.2.1∨m=r.2.2->m<n/\(2≤m->m∈O):=fun n hn r hr m hm=>by
  have b:=o.bd n hn
  have lo:=ok.lo _ _ hr
  have rr:=o.rr n hn r hr
  refine ⟨by rcases hm with rfl|rfl <;> lia,fun h2=>o.cl m (by rcases hm with rfl|rfl;exact rr.1;exact rr.2) h2 (by rcases hm with rfl|rfl <;> lia) (by lia)⟩
 have jok:∀ n∈O,∀ m,m<n/\(2≤m->m∈O)->j6 (O.idxOf n) O.length (jK O m):=fun n hn m ⟨h1,h2⟩=>by
  unfold jK
  split
  ·trivial
  ·split
   ·trivial
   ·have hm:=h2 (by lia)
    exact ⟨qH o.dec hn hm h1,List.idxOf_lt_length_iff.mpr hm⟩
 have at_:∀ j r,W[j]?=some r->∃ n q,O[j]?=some n/\L[n-2]?=some q/\r=jE O q/\n∈O/\O.idxOf n=j:=fun j r h=>by
  rw [hw j,Option.bind_eq_some_iff] at h
  obtain ⟨n,hn,h⟩:=h
  obtain ⟨q,hq,rfl⟩:=Option.map_eq_some_iff.mp h
  have hj:=(List.getElem?_eq_some_iff.mp hn).1
  refine ⟨n,q,hn,hq,rfl,List.mem_of_getElem? hn,?_⟩
  have:=(List.getElem?_eq_some_iff.mp hn).2
  rw [← this]
  exact nd.idxOf_getElem j hj
 refine ⟨.inr ⟨rfl,by lia,⟨fun r hr=>?_,fun j r h=>?_⟩⟩,by lia,fun pz b=>?_⟩
 ·obtain ⟨j,hj⟩:=List.getElem?_of_mem hr
  obtain ⟨n,q,_,hq,rfl,_⟩:=at_ j r hj
  exact ok.lf q (List.mem_of_getElem? hq)
 ·obtain ⟨n,q,hn,hq,rfl,hm,rfl⟩:=at_ j r h
  rw [wl]
  exact ⟨jok n hm _ (cl n hm q hq _ (.inl rfl)),jok n hm _ (cl n hm q hq _ (.inr rfl))⟩
 ·have go:∀ {m:Nat} {b:Bool},Ev pz L m b->(2≤m->m∈O)->Wk pz W (jK O m) b:=by
   intro m b h
   induction h with
   |no=>intro _;exact .fin
   |yes=>intro _;exact .fin
   | @row i r b e _ ih=>
     intro hm
     have hm:=hm (by lia)
     have ej:jK O (i+2)=.inr (O.idxOf (i+2)):=by
      unfold jK
      rw [if_neg (by lia),if_neg (by lia)]
     rw [ej]
     have hi:=List.idxOf_lt_length_iff.mpr hm
     refine .row (r:=jE O r) (by rw [hw,List.getElem?_eq_getElem hi,List.getElem_idxOf,Option.bind_some,show i+2-2=i from by lia,e];rfl) ?_
     have c:=cl (i+2) hm r e
     show Wk pz W (if pz r.1=true then jK O r.2.1 else jK O r.2.2) b
     cases hp:pz r.1 with
     | true=>
       rw [hp] at ih
       exact ih (c _ (.inl rfl)).2
     | false=>
       rw [hp] at ih
       exact ih (c _ (.inr rfl)).2
  intro h
  have:=go h fun _=>o.cl g o.rg hg (Nat.le_refl _) (by lia)
  have e:jK O g=.inr 0:=by
   unfold jK
   rw [if_neg (by lia),if_neg (by lia)]
   have:O[0]=g:=(List.getElem?_eq_some_iff.mp h0).2
   rw [← this,nd.idxOf_getElem 0 pos]
  rw [e] at this
  exact this
noncomputable def j4 (g:Nat) (L:List Rw):gC×List jb:=if g<2 then (.inl (decide (g=1)),[]) else (.inr 0,(j8 L g (g-1)).1.map fun n=>jE (j8 L g (g-1)).1 (dZ L n))
theorem mV (ok:mK L) (hl:g<L.length+2):eO (j4 g L).1 (j4 g L).2/\(j4 g L).2.length≤L.length/\∀ pz b,Ev pz L g b->Wk pz (j4 g L).2 (j4 g L).1 b:=by
 unfold j4
 by_cases h2:g<2
 ·rw [if_pos h2]
  refine ⟨.inl ⟨_,rfl,rfl⟩,Nat.zero_le _,fun pz b h=>?_⟩
  cases h with
  |no=>exact .fin
  |yes=>exact .fin
  |row=>lia
 ·rw [if_neg h2]
  have o:=jB ok hl (i:=g-1) (by lia)
  refine Hi ok (by lia) hl o (fun j=>?_) (List.length_map ..)
  rw [List.getElem?_map]
  cases hj:(j8 L g (g-1)).1[j]? with
  |none=>rfl
  | some n=>
    have b:=o.bd n (List.mem_of_getElem? hj)
    rw [Option.map_some,Option.bind_some,gQ (by lia)]
    rfl
noncomputable def nV (R:List Nat):List V:=R.map fun n:Nat=>V.int n
theorem v6 (R:List Nat):(nV R).all jP=true:=by
 unfold nV
 rw [List.all_map,List.all_eq_true]
 intro n _
 rfl
theorem z8 (m:Nat):∀ R:List Nat,inV (.int m) (nV R)=decide (m∈R)
 |[]=>by simp [inV,nV]
 | n::R=>by
   have ih:=z8 m R
   unfold inV nV at ih ⊢
   rw [List.map_cons,List.any_cons,ih]
   show ((n:Int) == (m:Int) || _)=_
   rw [Bool.eq_iff_iff]
   simp
   constructor
   ·rintro (h|h)
    ·exact .inl (by lia)
    ·exact .inr h
   ·rintro (h|h)
    ·exact .inl (by lia)
    ·exact .inr h
noncomputable def su (O:List Nat) (i m:Nat):Option V:=if m∈O.take i then some (.int (O.idxOf m:Nat)) else if m=1 then some (.bl true) else if m=0 then some (.bl false) else none
theorem yr (nd:O.Nodup) (h:O[i]?=some n):su O (i+1) m=if m=n then some (.int (i:Nat)) else su O i m:=by
 have hi:=(List.getElem?_eq_some_iff.mp h).1
 have hn:=(List.getElem?_eq_some_iff.mp h).2
 unfold su
 rw [List.take_add_one,h]
 by_cases e:m=n
 ·subst e
  rw [if_pos (by simp),if_pos rfl]
  have:O.idxOf m=i:=by rw [← hn];exact nd.idxOf_getElem i hi
  rw [this]
 ·rw [if_neg e]
  simp [e]
theorem y_ (h:∀ n∈O,2≤n) (hm:m<2∨m∈O):su O O.length m=some (jV (jK O m)):=by
 unfold su jK
 rw [List.take_length]
 by_cases h0:m=0
 ·subst h0
  rw [if_neg (fun z=>by have:=h _ z;lia),if_neg (by decide),if_pos rfl,if_pos rfl];rfl
 ·by_cases h1:m=1
  ·subst h1
   rw [if_neg (fun z=>by have:=h _ z;lia),if_pos rfl,if_neg (by decide),if_pos rfl];rfl
  ·rw [if_pos (hm.resolve_left (by lia)),if_neg h0,if_neg h1];rfl
theorem nu {m n:Nat}:((Sum.inl (m:Int):Key)=Sum.inl (n:Int))↔m=n:=by
 constructor
 ·intro h;injection h with h;lia
 ·rintro rfl;rfl
noncomputable def Ji (K:Frag):Sp:=fun vs H Q _=>∃ (g:Nat) (l:Addr) (L:List Rw),vs=[.int g,.ref l]/\qG K H l L/\mK L/\L.length≤100/\g<L.length+2/\
 ∀ p lw ws st W H',H' p=some (.tup [jV st,.ref lw])->H' lw=some (.lst ws)->bj K H' ws (W.map jN)->eO st W->W.length≤L.length->(∀ pz b,Ev pz L g b->Wk pz W st b)->aC H H'->Q (.ref p) H'
noncomputable def Dh (K:Frag):Sp:=fun vs H Q _=>∃ (g:Nat) (l:Addr) (L:List Rw),vs=[.int g,.ref l]/\qG K H l L/\mK L/\L.length≤100/\g<L.length+2/\
 ∀ p lw ws H',H lw=none->H' p=some (.tup [jV (j4 g L).1,.ref lw])->H' lw=some (.lst ws)->bj K H' ws ((j4 g L).2.map jN)->aC H H'->Q (.ref p) H'
noncomputable abbrev Od:List Str:=["goal","laid","reached","order","number","ends","at","rows"]
theorem rD:aU Od ["goal","laid"] (aD (top 43)):=by ext
theorem HN:List.Nodup (["leaf","yes","no","ends"]:List Str):=by ext
theorem zF {mg:Str->Option Value} {f:Addr} {fd:FuncData} (F:fc K "way_from" "way_from" (top 43) f fd) (T:Txt K mg) (TW:tE mg) (hrv:mg "reversed" = none) (hen:mg "enumerate" = none):aQ P w K mg base bC 1 f fd ["goal","laid"] (Dh K):=by
 refine F.ok rD (by ext) fun cdv A outer s H vs Q E hr h=>?_
 obtain ⟨g,l,L,rfl,⟨xs,hl,rs⟩,ok,ll,hg,k⟩:=h
 obtain ⟨t0,m0⟩:=TW.no
 obtain ⟨t1,m1⟩:=TW.yes
 obtain ⟨t2,m2⟩:=TW.row
 have hu:=vC hr
 refine ⟨_,(ak (a_ (aH jO (pv 0) (cB (v:=.int 2) rfl m2 ⟨_,rfl⟩) (aN _)) (aB (aJ (bu (aa (bN bz (pv 0) (cB (v:=.int 1) rfl m1 ⟨_,rfl⟩) (aN _)) (aa (bM aj) aj))))) aL)
  (ak (bc (i:=2) rD.nd rfl (.inl rfl) (bM (aa (pv 0) aj)))
  (ak (bc (i:=3) rD.nd rfl (.inl rfl) (bM aj))
  (ak (dH PassesOwn.never rfl (Fd rfl hrv rfl T.range (aa (cB (v:=.int 2) rfl m2 ⟨_,rfl⟩) (aa (bh cH (pv 0) aA) aj))) (aK (i:=4) rD.nd rfl (.inl rfl)) (aB
   (a_ (aH dX (pv 4) (pv 2) rfl) (ak (cJ (h_ PySem.F.plainAttrs_list PySem.F.slot_list_append PySem.F.type_list_append eZ (pv 3) (aa (pv 4) aj)))
    (aB (cJ (h_ PySem.F.plainAttrs_list PySem.F.slot_list_extend PySem.F.type_list_extend sY (pv 2) (aa (cG gn (aZ cF (pv 1) (bh dM (pv 4) (cB (v:=.int 2) rfl m2 ⟨_,rfl⟩)) (fun _ _=>rfl)) (cR aA) cW) aj))))) aL)))
  (ak (bc (i:=5) rD.nd rfl (.inr rfl) (vG (iC (cB (v:=.int 0) rfl m0 ⟨_,rfl⟩) cY (iC (cB (v:=.int 1) rfl m1 ⟨_,rfl⟩) cY v5)) rfl rfl (List.cons_ne_nil _ _) (by show 2≤15;decide)))
  (ak (dH PassesOwn.never rfl (sG rfl hen gP (aa (pv 3) aj)) (cD rfl (aP (aK (i:=6) rD.nd rfl (.inl rfl)) (aP (aK (i:=4) rD.nd rfl (.inl rfl)) bY))) (aB (iY hu (pv 5) (pv 4) (pv 6) rfl)))
  (ak (eY (g:=bG 0) (i:=7) (own:=["number"]) (js:=[1]) (N':=["number","laid"]) (bL.of (osc:=aD (top 43)) (N:=Od) rfl rfl (by ext)) rfl rD.nd rfl rfl (iQ (pv 3)) (fun _ _ _ _ _=>(aK (i:=0) (show List.Nodup (["number","laid"]:List Str) by ext) rfl (.inl rfl) (.inr rfl))) (fun _ _ _ _ _=>dF) (fun _ _ _ _ _=>(aZ (r:=By K) cF (pv 1) (bh dM (pv 0) (cB (v:=.int 2) rfl m2 ⟨_,rfl⟩)) (fun _ _=>rfl))))
  (aB (aJ (bu (aa aA (aa (gR (g:=Oz K) (own:=["leaf","yes","no"]) (js:=[5]) (N':=["leaf","yes","no","ends"]) (bL.of (osc:=aD (top 43)) (N:=Od) rfl rfl (by ext)) rfl (iQ (pv 7)) (fun _ _ _ _ _=>(cD rfl (aP (aK (i:=0) HN rfl (.inl rfl) (.inr rfl)) (aP (aK (i:=1) HN rfl (.inl rfl) (.inr rfl)) (aP (aK (i:=2) HN rfl (.inl rfl) (.inr rfl)) bY))))) (fun _ _ _ _ _=>dF) (fun _ _ _ _ _=>(bu (aa (pv 0) (aa (cU hu (pv 3) (pv 1) (fun _ _=>rfl)) (aa (cU hu (pv 3) (pv 2) (fun _ _=>rfl)) aj)))))) aj)))))))))))),?_⟩
 refine ⟨_,rfl,_,_,rfl,rfl,_,rfl,?_⟩
 by_cases h2:g<2
 ·refine b_ (by simp;lia) ⟨_,rfl,rfl,(by ext),fun q hq=>⟨(by ext),fun p hp=>?_⟩⟩
  have e:decide (V.int (g:Int)=V.int 1)=decide (g=1):=by rw [ii,decide_eq_decide];lia
  have s1:aC H (upd H q (.lst [])):=aC.new hq
  have s2:=s1.trans (aC.new (o:=.tup [.bl (decide (V.int (g:Int)=V.int 1)),.ref q]) hp)
  unfold j4 at k
  rw [if_pos h2] at k
  exact k p q [] _ hq (by rw [← e];exact au) ((aC.new hp) _ _ au) .nil s2
 unfold j4 at k
 rw [if_neg h2] at k
 refine bJ (by simp;lia) ⟨_,rfl,(by ext),fun qr hqr=>⟨(by ext),fun qo hqo=>?_⟩⟩
 have s0:aC H (upd (upd H qr (.lst [.int g])) qo (.lst [])):=(aC.new hqr).trans (aC.new hqo)
 have nro:qr≠qo:=fun z=>by rw [← z,au] at hqo;cases hqo
 have er:upd (upd H qr (.lst [.int g])) qo (.lst []) qr=some (.lst (nV [g])):=by rw [aX nro,au];rfl
 have eo:upd (upd H qr (.lst [.int g])) qo (.lst []) qo=some (.lst (nV [])):=au
 have hqo':H qo=none:=e_ (aC.new hqr) hqo
 generalize upd (upd H qr (.lst [.int g])) qo (.lst [])=H0 at s0 er eo ⊢
 dsimp only [bG,List.set,L2.start]
 have xl:=rs.length
 rw [List.length_map] at xl
 have nat1:(g:Int)+1-2=((g-1:Nat):Int):=by lia
 refine ⟨_,rfl,_,_,rfl,rfl,2,(g:Int)+1,rfl,⟨by lia,by lia,by lia,by lia,by lia⟩,uJ (fun i σ H'=>∃ O R u,σ=[some (.int g),some (.ref l),some (.ref qr),some (.ref qo),u,none,none,none]/\H' qr=some (.lst (nV R))/\H' qo=some (.lst (nV O))/\j8 L g i=(O,R)/\aC H H') ⟨[],[g],none,rfl,er,eo,rfl,s0⟩ ?_ ?_⟩
 ·rintro i σ H1 hi ⟨O,R,u,rfl,er,eo,erc,s1⟩
  have hi:i+2≤g:=by lia
  have od:=jB ok hg (i:=i) (by lia)
  rw [erc] at od
  dsimp only at od
  have ers:j8 L g (i+1)=if g-i∈R then (O++[g-i],R++[(dZ L (g-i)).2.1,(dZ L (g-i)).2.2]) else (O,R):=by
   conv=>lhs;unfold j8
   rw [erc]
  have en:(g:Int)+1-1-(i:Int)=((g-i:Nat):Int):=by lia
  rw [en]
  dsimp only [bG,List.set]
  have ol:=od.ol
  have rl:=od.rl
  refine ⟨_,rfl,_,rfl,qr,nV R,rfl,.inl (bF.of er),rfl,v6 R,_,rfl,?_⟩
  show if inV (.int ((g-i:Nat):Int)) (nV R)=true then _ else _
  rw [z8]
  by_cases hm:g-i∈R
  ·refine b_ (decide_eq_true hm) ?_
   rw [if_pos hm] at ers
   have hrw:=gQ (L:=L) (n:=g-i) (by lia)
   generalize dZ L (g-i)=r at hrw ers
   refine ⟨_,rfl,.inl ⟨rfl,_,bF.of eo⟩,_,rfl,qo,_,_,rfl,rfl,eo,gf (by unfold nV;rw [List.length_map];lia),?_⟩
   have s2:aC H (upd H1 qo (.lst (nV O++[.int ((g-i:Nat):Int)]))):=fun b o e=>by rw [aX (aR e hqo')];exact s1 _ _ e
   have er2:upd H1 qo (.lst (nV O++[.int ((g-i:Nat):Int)])) qr=some (.lst (nV R)):=by rw [aX nro];exact er
   have eo2:upd H1 qo (.lst (nV O++[.int ((g-i:Nat):Int)])) qo=some (.lst (nV (O++[g-i]))):=by rw [au];unfold nV;rw [List.map_append];rfl
   generalize upd H1 qo (.lst (nV O++[.int ((g-i:Nat):Int)]))=H2 at s2 er2 eo2 ⊢
   have rs2:=rs.same s2
   obtain ⟨x,hx,rx⟩:=rs2.get (i:=g-i-2) (d:=eE r) (by rw [List.getElem?_map,hrw];rfl)
   have e3:((g-i:Nat):Int)-2=((g-i-2:Nat):Int):=by lia
   cases rx with
   |@tup a us _ sq ru=>
   obtain ⟨x0,rfl⟩:∃ x0,us=[x0,.int r.2.1,.int r.2.2]:=by
    cases ru with|cons r1 r2=>cases r2 with|cons r2 r3=>cases r3 with|cons r3 r4=>cases r2;cases r3;cases r4;exact ⟨_,rfl⟩
   refine ⟨_,rfl,.inl ⟨rfl,_,bF.of er2⟩,_,rfl,_,rfl,_,_,rfl,rfl,l,_,_,_,rfl,rfl,bF.of (s2 _ _ hl),(by rw [e3];exact aF hx),1,rfl,a,_,rfl,sq,(fun e=>?_),fun p hp=>?_⟩
   ·rw [nC] at e
    have:=congrArg List.length e
    simp at this
   rw [nC]
   have s3:=s2.trans (aC.new (o:=.tup [.int (r.2.1:Nat),.int (r.2.2:Nat)]) hp)
   have er3:=(aC.new (o:=.tup [.int (r.2.1:Nat),.int (r.2.2:Nat)]) hp) _ _ er2
   have eo3:=(aC.new (o:=.tup [.int (r.2.1:Nat),.int (r.2.2:Nat)]) hp) _ _ eo2
   have ep:upd H2 p (.tup [.int (r.2.1:Nat),.int (r.2.2:Nat)]) p=some (.tup [.int (r.2.1:Nat),.int (r.2.2:Nat)]):=au
   generalize upd H2 p (.tup [.int (r.2.1:Nat),.int (r.2.2:Nat)])=H3 at s3 er3 eo3 ep ⊢
   refine ⟨qr,p,_,_,rfl,rfl,er3,ep,Nat.le_trans (show _≤1000 by unfold nV;rw [List.length_map];simp;lia) (by decide),?_⟩
   refine ⟨O++[g-i],R++[r.2.1,r.2.2],_,rfl,?_,?_,ers,fun b o e=>?_⟩
   ·rw [au];unfold nV;rw [List.map_append];rfl
   ·rw [aX nro.symm];exact eo3
   ·rw [aX (aR e hqr)];exact s3 _ _ e
  ·rw [if_neg hm] at ers
   exact bJ (decide_eq_false hm) ⟨O,R,_,rfl,er,eo,ers,s1⟩
 ·rintro σ H1 ⟨O,R,u,rfl,er,eo,erc,s1⟩
  rw [show ((g:Int)+1-2).toNat=g-1 by lia] at erc
  have od:=jB ok hg (i:=g-1) (by lia)
  rw [erc] at od k
  dsimp only at od k
  have nd:O.Nodup:=od.dec.imp fun h=>by lia
  have ol:=od.ol
  have two:∀ n∈O,2≤n/\n-2<L.length:=fun n h=>by have:=od.bd n h;lia
  have nl:(nV O).length=O.length:=by unfold nV;rw [List.length_map]
  have big:1000≤sizeLine:=by decide
  refine fun qd hqd=>⟨au,[(.inl 0,.bl false),(.inl 1,.bl true)],rfl,by decide,?_⟩
  have hqd':H qd=none:=e_ s1 hqd
  have s2:aC H (upd (upd H1 qd (.dK [])) qd (.dK (iV [] [(.inl 0,.bl false),(.inl 1,.bl true)]))):=fun b o e=>by rw [aX (aR e hqd'),aX (aR e hqd')];exact s1 _ _ e
  have nod:qo≠qd:=aR eo hqd
  have eo2:(upd (upd H1 qd (.dK [])) qd (.dK (iV [] [(.inl 0,.bl false),(.inl 1,.bl true)]))) qo=some (.lst (nV O)):=by rw [aX nod,aX nod];exact eo
  have ed:(upd (upd H1 qd (.dK [])) qd (.dK (iV [] [(.inl 0,.bl false),(.inl 1,.bl true)]))) qd=some (.dK (putK (putK [] (.inl 0) (.bl false)) (.inl 1) (.bl true))):=au
  generalize upd (upd H1 qd (.dK [])) qd (.dK (iV [] [(.inl 0,.bl false),(.inl 1,.bl true)]))=H2 at s2 eo2 ed ⊢
  dsimp only [bG,List.set]
  have v0:∀ m:Nat,fX (putK (putK ([]:List (Key×V)) (.inl 0) (.bl false)) (.inl 1) (.bl true)) (.inl (m:Int))=su O 0 m:=fun m=>by
   rw [lL,lL,zb]
   unfold su
   rw [List.take_zero,if_neg (show ¬ m∈([]:List Nat) from nofun)]
   by_cases h1:m=1
   ·subst h1;rfl
   ·rw [if_neg (show ¬ (Sum.inl (m:Int):Key)=Sum.inl 1 from fun z=>h1 (nu.mp z)),if_neg h1]
    by_cases h0:m=0
    ·subst h0;rfl
    ·rw [if_neg (show ¬ (Sum.inl (m:Int):Key)=Sum.inl 0 from fun z=>h0 (nu.mp z)),if_neg h0]
  refine ⟨_,rfl,qo,rfl,⟨_,bF.of eo2⟩,wK (K:=K) (a:=qo) (xs:=nV O) (fun i σ H'=>∃ u v kvs,σ=[some (.int g),some (.ref l),some (.ref qr),some (.ref qo),u,some (.ref qd),v,none]/\H' qd=some (.dK kvs)/\kvs.length≤2+i/\(∀ m:Nat,fX kvs (.inl (m:Int))=su O i m)/\H' qo=some (.lst (nV O))/\aC H H')
   ⟨_,_,_,rfl,ed,by decide,v0,eo2,s2⟩ (fun i σ H' _ ⟨_,_,_,_,_,_,_,e,_⟩=>bF.of e) ?_ ?_⟩
  ·rintro i v σ H3 p hv ⟨u,v',kvs,rfl,hd,kl,kv,eo3,s3⟩ hp
   unfold nV at hv
   rw [List.getElem?_map] at hv
   obtain ⟨n,hn,rfl⟩:=Option.map_eq_some_iff.mp hv
   have il:=(List.getElem?_eq_some_iff.mp hn).1
   refine ⟨p,_,rfl,bD.of au,rfl,_,_,rfl,_,_,rfl,rfl,?_⟩
   have s4:=s3.trans (aC.new (o:=.tup [.int (i:Nat),.int (n:Nat)]) hp)
   have hd4:=(aC.new (o:=.tup [.int (i:Nat),.int (n:Nat)]) hp) _ _ hd
   have eo4:=(aC.new (o:=.tup [.int (i:Nat),.int (n:Nat)]) hp) _ _ eo3
   generalize upd H3 p (.tup [.int (i:Nat),.int (n:Nat)])=H4 at s4 hd4 eo4 ⊢
   have pl:=gr kvs (.inl (n:Int)) (.int (i:Nat))
   refine ⟨_,rfl,_,rfl,_,rfl,qd,_,rfl,nG.k (k:=.inl (n:Int)) hd4 (Nat.lt_of_lt_of_le (show _<1000 by lia) big),?_⟩
   refine ⟨_,_,_,rfl,au,by lia,fun m=>?_,by rw [aX nod];exact eo4,fun b o e=>by rw [aX (aR e hqd')];exact s4 _ _ e⟩
   rw [lL,kv,yr nd hn]
   by_cases e:m=n
   ·subst e;rw [if_pos rfl,if_pos rfl]
   ·rw [if_neg (fun z=>e (nu.mp z)),if_neg e]
  rintro σ H3 ⟨u2,v2,kvs,rfl,hd,kl,kv,eo3,s3⟩
  rw [nl] at kv
  have rs3:=rs.same s3
  have hl3:=s3 _ _ hl
  refine ⟨_,rfl,qo,rfl,⟨_,bF.of eo3⟩,?_⟩
  refine lZ (K:=K) (a:=qo) (xs:=nV O) (fun i ys σ' H'=>(∃ v,σ'=[v,some (.ref l)])/\H'=H3/\ys=(O.take i).map fun n=>xs.getD (n-2) .non) (by lia) ⟨⟨none,rfl⟩,rfl,rfl⟩ (fun i ys σ' H' _ ⟨_,e,_⟩=>by rw [e];exact bF.of eo3) ?_ ?_
  ·rintro i x ys σ' H' hx hys ⟨⟨v,rfl⟩,rfl,rfl⟩ N hN
   unfold nV at hx
   rw [List.getElem?_map] at hx
   obtain ⟨n,hn,rfl⟩:=Option.map_eq_some_iff.mp hx
   obtain ⟨t1',t2'⟩:=two n (List.mem_of_getElem? hn)
   have e3:(n:Int)-2=((n-2:Nat):Int):=by lia
   have hxn:xs[n-2]?=some (xs.getD (n-2) .non):=by rw [List.getD_eq_getElem?_getD,List.getElem?_eq_getElem (by lia)];rfl
   dsimp only [bG,List.set]
   exact ⟨_,rfl,_,rfl,_,_,rfl,rfl,l,_,_,_,rfl,rfl,bF.of hl3,(by rw [e3];exact aF hxn),hN _ _ _ (by rw [List.length_append,hys];rfl) ⟨⟨_,rfl⟩,rfl,by rw [List.take_add_one,hn];simp⟩⟩
  rintro ws σ' H' hws ⟨⟨v,rfl⟩,rfl,rfl⟩
  rw [nl,List.take_length]
  refine ⟨by rw [List.length_map];lia,fun q7 hq7=>?_⟩
  have s4:=s3.trans (aC.new (o:=.lst (O.map fun n=>xs.getD (n-2) .non)) hq7)
  have e7:upd H' q7 (.lst (O.map fun n=>xs.getD (n-2) .non)) q7=some (.lst (O.map fun n=>xs.getD (n-2) .non)):=au
  have hd4:=(aC.new (o:=.lst (O.map fun n=>xs.getD (n-2) .non)) hq7) _ _ hd
  generalize upd H' q7 (.lst (O.map fun n=>xs.getD (n-2) .non))=H4 at s4 e7 hd4 ⊢
  have rs4:=rs.same s4
  have cl:∀ n∈O,∀ r,L[n-2]?=some r->∀ m,m=r.2.1∨m=r.2.2->m<2∨m∈O:=fun n hn r hr m hm=>by
   have b:=od.bd n hn
   have lo:=ok.lo _ _ hr
   have rr:=od.rr n hn r hr
   by_cases h2:m<2
   ·exact .inl h2
   ·exact .inr (od.cl m (by rcases hm with rfl|rfl;exact rr.1;exact rr.2) (by lia) (by rcases hm with rfl|rfl <;> lia) (by lia))
  have dg:∀ {H':Hp} {m:Nat},H' qd=some (.dK kvs)->(m<2∨m∈O)->jF H' qd (.int m) (some (jV (jK O m))):=fun {H' m} e h=>by
   have:=jF.k (k:=.inl (m:Int)) e
   rw [kv,y_ (fun n hn=>(two n hn).1) h] at this
   exact this
  obtain ⟨W,eW⟩:∃ W,W=O.map fun n=>jE O (dZ L n):=⟨_,rfl⟩
  rw [← eW] at k
  have wl:W.length=O.length:=by rw [eW];exact List.length_map ..
  dsimp only [bG,List.set]
  refine ⟨_,rfl,q7,rfl,⟨_,bF.of e7⟩,?_⟩
  refine lZ (K:=K) (a:=q7) (xs:=O.map fun n=>xs.getD (n-2) .non) (fun i ys σ' H'=>(∃ u v w,σ'=[u,v,w,some (.ref qd)])/\aC H4 H'/\bj K H' ys ((W.take i).map jN)) (by rw [List.length_map];lia) ⟨⟨none,none,none,rfl⟩,aC.refl _,.nil⟩ (fun i ys σ' H' _ ⟨_,e,_⟩=>bF.of (e _ _ e7)) ?_ ?_
  ·rintro i x ys σ' H5 hx hys ⟨⟨u,v,w,rfl⟩,s5,ry⟩ N hN
   rw [List.getElem?_map] at hx
   obtain ⟨n,hn,rfl⟩:=Option.map_eq_some_iff.mp hx
   have mn:=List.mem_of_getElem? hn
   obtain ⟨t1',t2'⟩:=two n mn
   have hrw:L[n-2]?=some L[n-2]:=List.getElem?_eq_getElem t2'
   generalize L[n-2]=r at hrw
   obtain ⟨x,hx,rx⟩:=rs4.get (i:=n-2) (d:=eE r) (by rw [List.getElem?_map,hrw];rfl)
   have ex:xs.getD (n-2) .non=x:=by rw [List.getD_eq_getElem?_getD,hx];rfl
   rw [ex]
   have rx5:=rx.same s5
   cases rx5 with
   |@tup a us _ sq ru=>
   obtain ⟨x0,rfl,rx0⟩:∃ x0,us=[x0,.int r.2.1,.int r.2.2]/\Rep K H5 x0 r.1:=by
    cases ru with|cons r1 r2=>cases r2 with|cons r2 r3=>cases r3 with|cons r3 r4=>cases r2;cases r3;cases r4;exact ⟨_,rfl,r1⟩
   refine ⟨a,_,rfl,sq,rfl,_,_,rfl,_,_,rfl,_,_,rfl,rfl,?_⟩
   have d5:=s5 _ _ hd4
   refine ⟨_,rfl,_,rfl,_,rfl,qd,_,rfl,dg d5 (cl n mn r hrw _ (.inl rfl)),_,rfl,_,rfl,qd,_,rfl,dg d5 (cl n mn r hrw _ (.inr rfl)),(by ext),fun p hp=>hN _ _ _ (by rw [List.length_append,hys];rfl) ⟨⟨_,_,_,rfl⟩,s5.trans (aC.new hp),?_⟩⟩
   have ew:W[i]?=some (jE O r):=by
    rw [eW,List.getElem?_map,hn,Option.map_some]
    have:=gQ t2'
    rw [hrw] at this
    rw [← Option.some.inj this]
   rw [List.take_add_one,ew,List.map_append]
   refine gB (ry.same (aC.new hp)) (.cons (.tup (bD.of au) (.cons (rx0.same (aC.new hp)) (.cons (Ex _ _ _) (.cons (Ex _ _ _) .nil)))) .nil)
  ·rintro ws σ' H5 hws ⟨_,s5,ry⟩
   rw [List.length_map,← wl,List.take_length] at ry
   refine ⟨by rw [hws,List.length_map];lia,fun lw hlw=>⟨(by ext),fun p hp=>?_⟩⟩
   have s6:=(aC.new (o:=.lst ws) hlw).trans (aC.new (o:=.tup [.int 0,.ref lw]) hp)
   exact k p lw ws _ ((s4.trans s5).free hlw) au ((aC.new hp) _ _ au) (ry.same s6) ((s4.trans s5).trans s6)
theorem JB {mg:Str->Option Value} {f:Addr} {fd:FuncData} (F:fc K "way_from" "way_from" (top 43) f fd) (T:Txt K mg) (TW:tE mg) (hrv:mg "reversed" = none) (hen:mg "enumerate" = none):aQ P w K mg base bC 1 f fd ["goal","laid"] (Ji K):=
 (zF F T TW hrv hen).wk fun vs H Q E ⟨g,l,L,e,ld,ok,ll,hg,k⟩=>⟨g,l,L,e,ld,ok,ll,hg,fun p lw ws H' _ h1 h2 h3 s=>let ⟨a,b,c⟩:=mV ok hg;k p lw ws _ _ H' h1 h2 h3 a b c s⟩
section
variable {P:Program} {w:World} {K:PySem.W.Frag} {mg:Str->Option Value} {base:Heap}
structure cX (K:Frag) (H:Hp) (p lw:Addr) (st:gC) (W:List jb):Prop where
 hp:H p=some (.tup [jV st,.ref lw])
 hl:∃ ws,H lw=some (.lst ws)/\bj K H ws (W.map jN)
 ok:eO st W
theorem cX.same (h:cX K H p lw st W) (s:aC H H'):cX K H' p lw st W:=by
 obtain ⟨hp,⟨ws,hl,rs⟩,ok⟩:=h
 exact ⟨s _ _ hp,⟨ws,s _ _ hl,rs.same s⟩,ok⟩
noncomputable def Jk (K:Frag) (cT:Addr):Sp:=fun vs H Q E=>∃ (x:V) (d:PyData),vs=[x]/\Rep K H x d/\TD d/\
 (fH d=true->∀ p lw st W H',cX K H' p lw st W->W.length≤(sE d).length->(∀ nm fs zs,Wk (qO nm fs zs) W st (Ls nm fs zs d))->aC H H'->Q (.ref p) H')/\
 (fH d=false->False)
theorem M8:aU ["test","laid"] ["test"] (aD (top 40)):=by ext
theorem Lq (F:fc K "made" "made" (top 40) f fd) (TW:tE mg) (DN:cj K mg "need_test" (top 29) ["test"] fN fdN) (GN:aQ P w K mg base bC 11 fN fdN ["test"] (KQ K cT))
 (DL:cj K mg "lay_test" (top 41) H_ fL fdL) (GL:aQ P w K mg base bC 6 fL fdL H_ (E_ K 5)) (DW:cj K mg "way_from" (top 43) ["goal","laid"] fW fdW) (GW:aQ P w K mg base bC 1 fW fdW ["goal","laid"] (Ji K)):aQ P w K mg base bC 12 f fd ["test"] (Jk K cT):=by
 refine F.ok M8 (by ext) fun cdv A outer s H vs Q E hr h=>?_
 obtain ⟨x,d,rfl,rx,td,k,kx⟩:=h
 obtain ⟨t0,m0⟩:=TW.no
 obtain ⟨t1,m1⟩:=TW.yes
 have hr6:bR 6 _:=hr.mono (by decide)
 have hr1:bR 1 _:=hr.mono (by decide)
 refine ⟨_,(ak (cJ (bO DN GN hr (aa (pv 0) aj)))
  (ak (bc (i:=1) M8.nd rfl (by first|exact Or.inl rfl|exact Or.inr rfl) (bM aj))
  (aB (aJ (bO DW GW hr1 (aa (bO DL GL hr6 (aa (pv 0) (aa (cB (v:=.int 1) rfl m1 ⟨_,rfl⟩) (aa (cB (v:=.int 0) rfl m0 ⟨_,rfl⟩) (aa (pv 1) aj))))) (aa (pv 1) aj))))))),?_⟩
 refine ⟨_,rfl,x,d,rfl,rx,td,fun h1 H1 s1=>?_,kx⟩
 obtain ⟨sh,de,pa⟩:=iM h1
 have k:=k h1
 have ll:=kY td sh de
 have p5:(2:Nat) ^ 5=32:=by decide
 obtain ⟨f,r,rfl⟩:=dj td sh
 refine ⟨(by ext),fun l hl=>?_⟩
 have s2:=s1.trans (aC.new (o:=.lst []) hl)
 have hl0:H l=none:=e_ s1 hl
 have e2:upd H1 l (.lst []) l=some (.lst []):=au
 generalize upd H1 l (.lst [])=H2 at s2 e2 ⊢
 have rx2:=rx.same s2
 cases rx2 with
 |@tup q us _ sq rs=>
 refine ⟨_,rfl,_,rfl,q,f,r,1,0,l,[],rfl,.tup sq rs,td,sh,de,⟨[],e2,.nil⟩,⟨(fun _ h=>by cases h),fun i r h=>by simp at h⟩,by simp;lia,by simp,by simp,fun g L' H3 la ld b3=>?_⟩
 have ln:=la.len
 simp at ln
 have s3:aC H H3:=fun b o e=>b3 _ _ (s2 _ _ e) (aR e hl0)
 refine ⟨_,rfl,g,l,L',rfl,ld,la.ok,by lia,la.lt,fun p lw ws st W H4 h1 h2 h3 wo wl we s4=>k p lw st W H4 ⟨h1,⟨ws,h2,h3⟩,wo⟩ (by lia) (fun nm fs zs=>?_) (s3.trans s4)⟩
 have:=we _ _ (la.ev nm fs zs _ _ .yes .no)
 show Wk _ _ _ (cu nm fs zs 5 f r)
 cases hp:cu nm fs zs 5 f r <;> rw [hp] at this <;> exact this
end
theorem Af (h:lu f r):fU f r=true:=by
 have:=h.tr.sh
 rw [gj,h.ar,if_pos rfl] at this
 exact this
noncomputable def Ef (K:Frag):Sp:=fun vs H Q _=>∃ (j:gC) (i n:Nat),vs=[jV j,.int i,.int n]/\j6 i n j/\Q (.bl true) H
theorem JT:aU ["goal","at","many"] ["goal","at","many"] (aD (top 38)):=by ext
theorem G_ (F:fc K "leads_on" "leads_on" (top 38) f fd) (T:Txt K mg):aQ P w K mg base bC 1 f fd ["goal","at","many"] (Ef K):=by
 refine F.ok JT (by ext) fun cdv A outer s H vs Q E hr h=>?_
 obtain ⟨j,i,n,rfl,jo,k⟩:=h
 refine ⟨_,(aB (aJ (Eh (aG bK (by rfl) T.isinstance aV (aa (pv 0) (aa (cP rfl T.bool gk) aj))) (dI (j7 jO jO (pv 1) (pv 0) (pv 2)))))),?_⟩
 cases j with
 |inl b=>exact ⟨_,rfl,_,_,_,_,rfl,.bl b,rfl,_,rfl,b_ rfl k⟩
 | inr m=>
   obtain ⟨h1,h2⟩:=(show i<m/\m<n from jo)
   refine ⟨_,rfl,_,_,_,_,rfl,.int _,rfl,_,rfl,bJ rfl ?_⟩
   refine mH.chain (mH.var rfl) (mH.var rfl) (mH.var rfl) Ar.i0 Ar.i0 _ ?_
   rw [decide_eq_true (show (i:Int)<m by lia),decide_eq_true (show (m:Int)<n by lia)]
   exact k
noncomputable def Ik (K:Frag):Sp:=fun vs H Q _=>∃ (x:V) (d:PyData),vs=[x]/\Rep K H x d/\k_ d/\Q (.bl true) H
theorem Nu:aU ["leaf"] ["leaf"] (aD (top 37)):=by ext
theorem KR {f fL:Addr} {fd fdL:FuncData} (F:fc K "can_be_asked" "can_be_asked" (top 37) f fd) (T:Txt K mg) (DL:cj K mg "is_leaf" (top 26) ["test"] fL fdL) (GL:aQ P w K mg base bC 3 fL fdL ["test"] (Hc K)):aQ P w K mg base bC 4 f fd ["leaf"] (Ik K):=by
 refine F.ok Nu (by ext) fun cdv A outer s H vs Q E hr h=>?_
 obtain ⟨x,d,rfl,rx,⟨f,r,rfl,lf,na⟩,k⟩:=h
 refine ⟨_,(aB (aJ (cA (bN nW (aG aO (by rfl) T.len bH (aa (pv 0) aj)) aA (aN _)) (cA (bN mC (aZ aY (pv 0) aA (fun _ _=>rfl)) aM (aN _)) (dI (bO DL GL hr (aa (pv 0) aj))))))),?_⟩
 have rx0:=rx
 cases rx with
 |@tup q us _ sq rs=>
 obtain ⟨x0,ys,rfl⟩:∃ x0 ys,us=x0::ys:=by cases rs;exact ⟨_,_,rfl⟩
 obtain ⟨r0,rt⟩:Rep K H x0 (.str f)/\bj K H ys r:=by cases rs with|cons a b=>exact ⟨a,b⟩
 cases r0
 refine ⟨_,rfl,q,_,rfl,.inr sq,_,_,rfl,rfl,_,rfl,b_ (by simp) ?_⟩
 refine ⟨_,rfl,q,_,_,_,rfl,rfl,sq,aF (j:=0) rfl,rfl,_,rfl,b_ (by rw [fQ na];rfl) ?_⟩
 refine ⟨_,rfl,q,f,r,rfl,rx0,lf.tr.td,?_⟩
 rw [Af lf]
 exact k
noncomputable def IW (K:Frag):Sp:=fun vs H Q _=>∃ (x:V) (r:jb) (i n:Nat),vs=[x,.int i,.int n]/\Rep K H x (jN r)/\k_ r.1/\j6 i n r.2.1/\j6 i n r.2.2/\Q (.bl true) H
noncomputable abbrev Qt:List Str:=["row","at","many","leaf","yes","no"]
theorem Bv:aU Qt ["row","at","many"] (aD (top 36)):=by ext
theorem jU (h:Rep K H x (jN r)):∃ a x0,x=.ref a/\bD K H a [x0,jV r.2.1,jV r.2.2]/\Rep K H x0 r.1:=by
 have jv:∀ {v:V} {j:gC},Rep K H v (jD j)->v=jV j:=by
  intro v j h
  cases j with
  |inl b=>cases h;rfl
  |inr n=>cases h;rfl
 cases h with
 |@tup a us _ sq ru=>
 cases ru with|cons r1 r2=>cases r2 with|cons r2 r3=>cases r3 with|cons r3 r4=>
 cases r4
 cases jv r2
 cases jv r3
 exact ⟨a,_,rfl,sq,r1⟩
theorem JK (F:fc K "is_row" "is_row" (top 36) f fd) (DC:cj K mg "can_be_asked" (top 37) ["leaf"] fC fdC) (GC:aQ P w K mg base bC 4 fC fdC ["leaf"] (Ik K)) (DL:cj K mg "leads_on" (top 38) ["goal","at","many"] fL fdL) (GL:aQ P w K mg base bC 1 fL fdL ["goal","at","many"] (Ef K)):aQ P w K mg base bC 5 f fd ["row","at","many"] (IW K):=by
 refine F.ok Bv (by ext) fun cdv A outer s H vs Q E hr h=>?_
 obtain ⟨x,r,i,n,rfl,rx,lf,j1,j2,k⟩:=h
 have hr1:bR 1 _:=hr.mono (show 1≤4 by decide)
 refine ⟨_,(ak (cM (pv 0) (cD rfl (aP (aK (i:=3) Bv.nd rfl (.inl rfl)) (aP (aK (i:=4) Bv.nd rfl (.inl rfl)) (aP (aK (i:=5) Bv.nd rfl (.inl rfl)) bY)))))
  (aB (aJ (cA (bO DC GC hr (aa (pv 3) aj)) (cA (bO DL GL hr1 (aa (pv 4) (aa (pv 1) (aa (pv 2) aj)))) (dI (bO DL GL hr1 (aa (pv 5) (aa (pv 1) (aa (pv 2) aj)))))))))),?_⟩
 obtain ⟨a,x0,rfl,sq,r1⟩:=jU rx
 refine ⟨_,rfl,a,_,rfl,sq,rfl,_,_,rfl,_,_,rfl,_,_,rfl,rfl,?_⟩
 refine ⟨_,rfl,x0,_,rfl,r1,lf,_,rfl,b_ rfl ?_⟩
 refine ⟨_,rfl,_,rfl,_,rfl,r.2.1,i,n,rfl,j1,_,rfl,b_ rfl ?_⟩
 exact ⟨_,rfl,_,rfl,_,rfl,r.2.2,i,n,rfl,j2,k⟩
noncomputable def Du (K:Frag):Sp:=fun vs H Q _=>∃ (p lw:Addr) (st:gC) (W:List jb),vs=[.ref p]/\cX K H p lw st W/\W.length≤100/\∀ H',aC H H'->Q (.bl true) H'
theorem zM:aU ["way","start","rows"] ["way"] (aD (top 35)):=by ext
theorem GX (F:fc K "is_way" "is_way" (top 35) f fd) (T:Txt K mg) (hen:mg "enumerate" = none) (DR:cj K mg "is_row" (top 36) ["row","at","many"] fR fdR) (GR:aQ P w K mg base bC 5 fR fdR ["row","at","many"] (IW K)):aQ P w K mg base bC 6 f fd ["way"] (Du K):=by
 refine F.ok zM (by ext) fun cdv A outer s H vs Q E hr h=>?_
 obtain ⟨p,lw,st,W,rfl,⟨hp,⟨ws,hl,rs⟩,wo⟩,wl,k⟩:=h
 refine ⟨_,(ak (cM (pv 0) (cD rfl (aP (aK (i:=1) zM.nd rfl (.inl rfl)) (aP (aK (i:=2) zM.nd rfl (.inr rfl)) bY))))
  (ak (a_ (aH bz (aG aO (by rfl) T.len bH (aa (pv 2) aj)) aA (aN _)) (aB (aJ (aG bK (by rfl) T.isinstance aV (aa (pv 1) (aa (cP rfl T.bool gk) aj))))) aL)
  (ak (a_ (PW.pt (gJ (bU (aG bK (by rfl) T.isinstance aV (aa (pv 1) (aa (cP rfl T.bool gk) aj)))) (fJ (aH mC (pv 1) aA (aN _))))) (aB (aJ cY)) aL)
  (aB (aJ (aG (jy rfl) (by rfl) T.all qC (aa (gR (g:=HD K 2 (pB (bG 0) (pB (bG 1) HB))) (own:=["at","row"]) (js:=[2]) (N':=["at","row","rows"]) (bL.of (osc:=aD (top 35)) (N:=["way","start","rows"]) rfl rfl (by ext)) rfl (sG rfl hen gP (aa (pv 2) aj)) (fun _ _ _ _ _=>(cD rfl (aP (aK (i:=0) (show List.Nodup (["at","row","rows"]:List Str) by ext) rfl (.inl rfl) (.inr rfl)) (aP (aK (i:=1) (show List.Nodup (["at","row","rows"]:List Str) by ext) rfl (.inl rfl) (.inr rfl)) bY)))) (fun _ _ _ _ _=>dF) (fun _ _ _ _ _=>jC GR hr rfl DR.mg DR.F.kp DR.b .nil lC (aa (pv 1) (aa (pv 0) (aa (aG (r:=Ek K) aO (by rfl) T.len bH (aa (pv 2) aj)) aj))))) aj))))))),?_⟩
 have xl:=rs.length
 rw [List.length_map] at xl
 refine ⟨_,rfl,p,_,rfl,bD.of hp,rfl,_,_,rfl,_,_,rfl,rfl,?_⟩
 refine ⟨_,rfl,lw,ws,rfl,.inl (bF.of hl),rfl,_,rfl,?_⟩
 rcases wo with ⟨b,rfl,rfl⟩|⟨rfl,pos,wok⟩
 ·cases rs
  exact b_ rfl ⟨_,rfl,_,_,_,_,rfl,.bl b,rfl,k _ (aC.refl _)⟩
 refine bJ (by rw [ii,decide_eq_false_iff_not];lia) ?_
 refine ⟨_,rfl,_,_,_,_,rfl,.int _,rfl,_,rfl,bJ rfl ⟨_,rfl,rfl,_,rfl,bJ rfl ?_⟩⟩
 refine ⟨_,rfl,lw,rfl,⟨_,bF.of hl⟩,?_⟩
 refine uf (K:=K) (a:=lw) (xs:=ws) (fun i ys σ' H'=>(∃ u v,σ'=[u,v,some (.ref lw)])/\aC H H'/\ys=(List.replicate i true).map V.bl) (Nat.le_trans (show _≤100 by lia) (by decide)) ⟨⟨none,none,rfl⟩,aC.refl _,rfl⟩ (fun i ys σ' H' _ ⟨_,e,_⟩=>bF.of (e _ _ hl)) ?_ ?_
 ·rintro i x ys σ' H1 q hx hys ⟨⟨u,v,rfl⟩,s1,rfl⟩ hq N hN
  obtain ⟨d,hd,rx⟩:=rs.get' hx
  rw [List.getElem?_map] at hd
  obtain ⟨r,hr',rfl⟩:=Option.map_eq_some_iff.mp hd
  have jp:=wok.jp i r hr'
  rw [← xl] at jp
  have s2:=s1.trans (aC.new (o:=.tup [.int (i:Nat),x]) hq)
  refine ⟨q,_,rfl,bD.of au,rfl,_,_,rfl,_,_,rfl,rfl,?_⟩
  generalize upd H1 q (.tup [.int (i:Nat),x])=H2 at s2 ⊢
  refine ⟨_,rfl,_,rfl,_,rfl,lw,ws,rfl,.inl (bF.of (s2 _ _ hl)),x,r,i,ws.length,rfl,rx.same s2,wok.lf r (List.mem_of_getElem? hr'),jp.1,jp.2,?_⟩
  exact hN _ _ _ (by rw [List.length_append,hys];rfl) ⟨⟨_,_,rfl⟩,s2,by rw [List.replicate_succ',List.map_append];rfl⟩
 ·rintro ys σ' H1 hys ⟨_,s1,rfl⟩
  refine ⟨Nat.le_trans (show _≤100 by rw [hys];lia) (by decide),fun l hl'=>⟨l,List.replicate ws.length true,rfl,bF.of au,?_⟩⟩
  have e:(List.replicate ws.length true).all id=true:=by simp
  show Q (.bl ((List.replicate ws.length true).all id)) _
  rw [e]
  exact k _ (s1.trans (aC.new hl'))
theorem N_:aU ["way"] ["way"] (aD (top 39)):=by ext
noncomputable def yC (K:Frag):Sp:=fun vs H Q _=>∃ (p lw:Addr) (st:gC) (W:List jb),vs=[.ref p]/\cX K H p lw st W/\W.length≤100/\∀ H',aC H H'->Q .non H'
theorem Ht (F:fc K "need_way" "need_way" (top 39) f fd) (DI:cj K mg "is_way" (top 35) ["way"] fI fdI) (GI:aQ P w K mg base bC 6 fI fdI ["way"] (Du K)):aQ P w K mg base bC 7 f fd ["way"] (yC K):=by
 refine F.ok N_ (by ext) fun cdv A outer s H vs Q E hr h=>?_
 obtain ⟨p,lw,st,W,rfl,wa,wl,k⟩:=h
 refine ⟨_,(aB (a_ (cN (bU (bO DI GI hr (aa (pv 0) aj)))) (aB d9) aL)),?_⟩
 exact ⟨_,rfl,p,lw,st,W,rfl,wa,wl,fun H' s1=>⟨_,rfl,bJ rfl (k H' s1)⟩⟩
section
variable {P:Program} {w:World} {K:PySem.W.Frag} {mg:Str->Option Value} {base:Heap}
structure zW (K:Frag) (C:Addr) (H:Hp) (p lw o a b:Addr) (st:gC) (W:List jb) (nm:Str) (fs:List jM) (zs:List Int) (v:Bool) (m:Nat):Prop where
 wa:cX K H p lw st W
 wl:W.length≤100
 ka:gY C H o nm a fs
 fl:fs.length≤4
 hb:H b=some (.tup (zs.map V.int))
 ib:O4 zs fs
 wk:Wn (qO nm fs zs) W st v m
noncomputable def Hd (K:Frag) (C:Addr):Sp:=fun vs H Q _=>∃ p lw o a b st W nm fs zs v m,vs=[.ref p,.ref o,.ref b]/\zW K C H p lw o a b st W nm fs zs v m/\∀ q H',H' q=some (.tup [.bl v,.int (m:Nat)])->aC H H'->Q (.ref q) H'
noncomputable abbrev Qn:List Str:=["way","kind","values","goal","rows","many","leaf","yes","no"]
theorem pZ:aU Qn ["way","kind","values"] (aD (top 46)):=by ext
theorem cz (h:eO st W) (hr:W[i]?=some r):k_ r.1/\j6 i W.length r.2.1/\j6 i W.length r.2.2:=by
 rcases h with ⟨b,_,rfl⟩|⟨_,_,ok⟩
 ·simp at hr
 ·exact ⟨ok.lf r (List.mem_of_getElem? hr),ok.jp i r hr⟩
theorem Ih (F:fc K "walk" "walk" (top 46) f fd) (T:Txt K mg) (KC:KCls K mg C) (DN:cj K mg "need_way" (top 39) ["way"] fN fdN) (GN:aQ P w K mg base bC 7 fN fdN ["way"] (yC K))
 (MN:MD K C "need" "Kind.need" (kM 4) ["self","values"] fM fdM) (GM:aQ P w K mg base bC 1 fM fdM ["self","values"] (Dm C)) (DP:cj K mg "passes_leaf" (top 30) ["leaf","kind","values"] fP fdP) (GP:aQ P w K mg base bC 2 fP fdP ["leaf","kind","values"] (M5 K C)):aQ P w K mg base bC 8 f fd ["way","kind","values"] (Hd K C):=by
 refine F.ok pZ (by ext) fun cdv A outer s H vs Q E hr h=>?_
 obtain ⟨p,lw,o,a,b,st,W,nm,fs,zs,v,m0,rfl,⟨wa,wl,ka,fl,hb,ib,wk⟩,k⟩:=h
 have hr1:bR 1 _:=hr.mono (show 1≤7 by decide)
 have hr2:bR 2 _:=hr.mono (show 2≤7 by decide)
 refine ⟨_,(ak (cJ (bO DN GN hr (aa (pv 0) aj)))
  (ak (cJ (vh (E:=E0) (pv 1) KC.cl MN.M GM hr1 MN.b .nil lC (aa (pv 2) aj)))
  (ak (cM (pv 0) (cD rfl (aP (aK (i:=3) pZ.nd rfl (.inl rfl)) (aP (aK (i:=4) pZ.nd rfl (.inl rfl)) bY))))
  (ak (bc (i:=5) pZ.nd rfl (.inl rfl) aA)
  (ak (zN PassesOwn.never (cN (bU (aG bK (by rfl) T.isinstance aV (aa (pv 3) (aa (cP rfl T.bool gk) aj)))))
   (ak (cM (aZ cF (pv 4) (pv 3) (fun _ _=>rfl)) (cD rfl (aP (aK (i:=6) pZ.nd rfl (.inl rfl)) (aP (aK (i:=7) pZ.nd rfl (.inl rfl)) (aP (aK (i:=8) pZ.nd rfl (.inl rfl)) bY)))))
   (ak (bc (i:=3) pZ.nd rfl (.inl rfl) (eN (bU (bO DP GP hr2 (aa (pv 6) (aa (pv 1) (aa (pv 2) aj))))) (pv 7) (pv 8)))
   (aB (HQ (i:=5) pZ.nd rfl (.inl rfl) aA CV)))))
  (aB (aJ (bu (aa (pv 3) (aa (pv 5) aj)))))))))),?_⟩
 refine ⟨_,rfl,p,lw,st,W,rfl,wa,wl,fun H1 s1=>?_⟩
 have ka1:=ka.same s1
 obtain ⟨⟨dx,ho⟩,_⟩:=id ka1
 refine ⟨_,rfl,o,dx,_,rfl,ho,(v4 nm a).2,_,rfl,o,a,b,nm,fs,zs,rfl,ka1,s1 _ _ hb,ib,fun H2 s2=>?_⟩
 have S2:=s1.trans s2
 obtain ⟨hp,⟨ws,hl,rs⟩,wo⟩:=wa
 refine ⟨_,rfl,p,_,rfl,bD.of (S2 _ _ hp),rfl,_,_,rfl,_,_,rfl,rfl,?_⟩
 dsimp only [bG,List.set,L2.start]
 refine yj (fun σ' H'=>∃ (j:gC) (n:Int) (u1 u2 u3:Option V),σ'=[some (.ref p),some (.ref o),some (.ref b),some (jV j),some (.ref lw),some (.int n),u1,u2,u3]/\(∃ m,Wn (qO nm fs zs) W j v m/\n+(m:Nat)=(m0:Nat))/\aC H H') (fun σ' _=>match σ' with|[_,_,_,some (.int i),_,_,_,_,_]=>W.length-i.toNat+1|_=>0) ⟨st,0,none,none,none,rfl,⟨m0,wk,by lia⟩,S2⟩ ?_ ?_
 ·rintro σ' H3 ⟨j,n,u1,u2,u3,rfl,⟨mm,wk3,em⟩,s3⟩
  cases wk3 with
  | fin=>
    refine ⟨_,rfl,_,_,_,_,rfl,.bl v,rfl,_,rfl,bJ rfl ?_⟩
    exact ⟨_,rfl,_,rfl,(by ext),fun q hq=>k q _ (by rw [au,show n=((m0:Nat):Int) by lia];rfl) (s3.trans (aC.new hq))⟩
  | @row i r _ m4 hir wk4=>
    obtain ⟨lf,j1,j2⟩:=cz wo hir
    have il:=(List.getElem?_eq_some_iff.mp hir).1
    refine ⟨_,rfl,_,_,_,_,rfl,.int _,rfl,_,rfl,b_ rfl ?_⟩
    obtain ⟨x,hx,rx⟩:=(rs.same s3).get (i:=i) (d:=jN r) (by rw [List.getElem?_map,hir];rfl)
    obtain ⟨c,x0,rfl,sq,r1⟩:=jU rx
    refine ⟨_,rfl,_,rfl,lw,_,_,_,rfl,rfl,bF.of (s3 _ _ hl),aF hx,c,_,rfl,sq,rfl,_,_,rfl,_,_,rfl,_,_,rfl,rfl,?_⟩
    dsimp only [bG,List.set]
    obtain ⟨f',r',er,lf',na⟩:=lf
    rw [er] at r1
    cases r1 with
    |@tup q us _ sq' rs'=>
    refine ⟨_,rfl,_,rfl,_,rfl,q,o,a,b,f',nm,r',fs,zs,rfl,.tup sq' rs',lf',ka.same s3,fl,s3 _ _ hb,vK ib,fun H4 s4=>?_⟩
    have ep:qO nm fs zs r.1=g_ nm fs zs f' r':=by rw [er];rfl
    rw [ep] at wk4
    have s5:=s3.trans s4
    have fin:∀ j':gC,Wn (qO nm fs zs) W j' v m4->j6 i W.length j'->(∃ (j:gC) (n':Int) (u1 u2 u3:Option V),[some (.ref p),some (.ref o),some (.ref b),some (jV j'),some (.ref lw),some (.int (n+1)),some (.ref q),some (jV r.2.1),some (jV r.2.2)]=[some (.ref p),some (.ref o),some (.ref b),some (jV j),some (.ref lw),some (.int n'),u1,u2,u3]/\(∃ m,Wn (qO nm fs zs) W j v m/\n'+(m:Nat)=(m0:Nat))/\aC H H4)/\(match [some (V.ref p),some (.ref o),some (.ref b),some (jV j'),some (.ref lw),some (.int (n+1)),some (.ref q),some (jV r.2.1),some (jV r.2.2)] with|[_,_,_,some (.int i),_,_,_,_,_]=>W.length-i.toNat+1|_=>0)<W.length-i+1:=fun j' w' jo=>by
     refine ⟨⟨j',_,_,_,_,rfl,⟨m4,w',by lia⟩,s5⟩,?_⟩
     cases j' with
     |inl b'=>show 0<_;lia
     | inr m=>
       obtain ⟨h1,h2⟩:=(show i<m/\m<W.length from jo)
       show W.length-((m:Nat):Int).toNat+1<_
       lia
    cases hp':g_ nm fs zs f' r' with
    | true=>
      rw [hp'] at wk4
      rw [if_pos rfl] at wk4
      exact ⟨_,rfl,b_ rfl ⟨_,rfl,_,rfl,_,_,rfl,rfl,fin _ wk4 j1⟩⟩
    | false=>
      rw [hp'] at wk4
      rw [if_neg Bool.false_ne_true] at wk4
      exact ⟨_,rfl,bJ rfl ⟨_,rfl,_,rfl,_,_,rfl,rfl,fin _ wk4 j2⟩⟩
 ·rintro σ' H' Q1 Q2 hQ ⟨v',e1,x,n,d,b',e2,rd,e3,y,e4,q⟩
  exact ⟨v',e1,x,n,d,b',e2,rd,e3,y,e4,hQ _ _ q⟩
noncomputable def zy (K:Frag) (C:Addr):Sp:=fun vs H Q _=>∃ p lw o a b st W nm fs zs v m,vs=[.ref p,.ref o,.ref b]/\zW K C H p lw o a b st W nm fs zs v m/\∀ H',aC H H'->Q (.bl v) H'
noncomputable abbrev Qh:List Str:=["way","kind","values","told","many"]
theorem Fj:aU Qh ["way","kind","values"] (aD (top 44)):=by ext
theorem Hg (F:fc K "run" "run" (top 44) f fd) (DW:cj K mg "walk" (top 46) ["way","kind","values"] fW fdW) (GW:aQ P w K mg base bC 8 fW fdW ["way","kind","values"] (Hd K C)):aQ P w K mg base bC 9 f fd ["way","kind","values"] (zy K C):=by
 refine F.ok Fj (by ext) fun cdv A outer s H vs Q E hr h=>?_
 obtain ⟨p,lw,o,a,b,st,W,nm,fs,zs,v,m,rfl,h,k⟩:=h
 refine ⟨_,(ak (cM (bO DW GW hr (aa (pv 0) (aa (pv 1) (aa (pv 2) aj)))) (cD rfl (aP (aK (i:=3) Fj.nd rfl (.inl rfl)) (aP (aK (i:=4) Fj.nd rfl (.inl rfl)) bY))))
  (aB (aJ (pv 3)))),?_⟩
 refine ⟨_,rfl,_,rfl,_,rfl,p,lw,o,a,b,st,W,nm,fs,zs,v,m,rfl,h,fun q H1 hq s1=>?_⟩
 exact ⟨q,_,rfl,bD.of hq,rfl,_,_,rfl,_,_,rfl,rfl,_,rfl,k _ s1⟩
noncomputable def Gq (K:Frag) (C:Addr):Sp:=fun vs H Q _=>∃ p lw o a b st W nm fs zs v m,vs=[.ref p,.ref o,.ref b]/\zW K C H p lw o a b st W nm fs zs v m/\∀ H',aC H H'->Q (.int (m:Nat)) H'
noncomputable abbrev Qx:List Str:=["way","kind","values","told","many"]
theorem Ge:aU Qx ["way","kind","values"] (aD (top 45)):=by ext
theorem Gd (F:fc K "steps" "steps" (top 45) f fd) (DW:cj K mg "walk" (top 46) ["way","kind","values"] fW fdW) (GW:aQ P w K mg base bC 8 fW fdW ["way","kind","values"] (Hd K C)):aQ P w K mg base bC 9 f fd ["way","kind","values"] (Gq K C):=by
 refine F.ok Ge (by ext) fun cdv A outer s H vs Q E hr h=>?_
 obtain ⟨p,lw,o,a,b,st,W,nm,fs,zs,v,m,rfl,h,k⟩:=h
 refine ⟨_,(ak (cM (bO DW GW hr (aa (pv 0) (aa (pv 1) (aa (pv 2) aj)))) (cD rfl (aP (aK (i:=3) Ge.nd rfl (.inl rfl)) (aP (aK (i:=4) Ge.nd rfl (.inl rfl)) bY))))
  (aB (aJ (pv 4)))),?_⟩
 refine ⟨_,rfl,_,rfl,_,rfl,p,lw,o,a,b,st,W,nm,fs,zs,v,m,rfl,h,fun q H1 hq s1=>?_⟩
 exact ⟨q,_,rfl,bD.of hq,rfl,_,_,rfl,_,_,rfl,rfl,_,rfl,k _ s1⟩
end
noncomputable def j5 (G:Nat->Nat):gC->Nat
 |.inl b=>if b=true then 1 else 0
 |.inr k=>G k
noncomputable def cg (W:List jb) (k:Nat):jb:=(W[k]?).getD (.none,.inl false,.inl false)
noncomputable def di (W:List jb):Nat->List Rw×(Nat->Nat)
 |0=>([],fun _=>0)
 | i + 1=>((layR (di W i).1 ((cg W (W.length-1-i)).1,j5 (di W i).2 (cg W (W.length-1-i)).2.1,j5 (di W i).2 (cg W (W.length-1-i)).2.2)).1,
     fun k=>if k=W.length-1-i then (layR (di W i).1 ((cg W (W.length-1-i)).1,j5 (di W i).2 (cg W (W.length-1-i)).2.1,j5 (di W i).2 (cg W (W.length-1-i)).2.2)).2 else (di W i).2 k)
noncomputable def xQ (st:gC) (W:List jb):gC×List jb:=j4 (j5 (di W W.length).2 st) (di W W.length).1
theorem dD (h:k<W.length):W[k]?=some (cg W k):=by
 unfold cg
 rw [List.getElem?_eq_getElem h]
 rfl
structure PP (W:List jb) (i:Nat) (L:List Rw) (G:Nat->Nat):Prop where
 ok:mK L
 ll:L.length≤i
 lt:∀ k,W.length≤k+i->k<W.length->G k<L.length+2
theorem lW {W:List jb} {L:List Rw} {G:Nat->Nat} (h:∀ k,i<k->k<n->G k<L.length+2):∀ {j:gC},j6 i n j->j5 G j<L.length+2
 |.inl true,_=>show 1<_ by lia
 |.inl false,_=>show 0<_ by lia
 |.inr k,jo=>h k jo.1 jo.2
theorem yz {W:List jb} (wo:eO st W):∀ {i:Nat},i≤W.length->PP W i (di W i).1 (di W i).2
 |0,_=>⟨⟨(fun _ h=>by cases h),fun i r h=>by simp [di] at h⟩,Nat.le_refl _,fun k h1 h2=>by lia⟩
 | i+1,h=>by
   have p:=yz wo (i:=i) (by lia)
   obtain ⟨lf,j1,j2⟩:=cz wo (dD (W:=W) (k:=W.length-1-i) (by lia))
   have g1:=lW (W:=W) (L:=(di W i).1) (G:=(di W i).2) (fun k h1 h2=>p.lt k (by lia) h2) j1
   have g2:=lW (W:=W) (L:=(di W i).1) (G:=(di W i).2) (fun k h1 h2=>p.lt k (by lia) h2) j2
   have la:=nJ (r:=((cg W (W.length-1-i)).1,j5 (di W i).2 (cg W (W.length-1-i)).2.1,j5 (di W i).2 (cg W (W.length-1-i)).2.2)) p.ok lf g1 g2
   have ln:=la.len
   have pl:=p.ll
   refine ⟨la.ok,by show (layR _ _).1.length≤_;lia,fun k h1 h2=>?_⟩
   show (if k=W.length-1-i then _ else _)<(layR _ _).1.length+2
   by_cases e:k=W.length-1-i
   ·rw [if_pos e];exact la.lt
   ·rw [if_neg e]
    have:=p.lt k (by lia) h2
    lia
section
variable {P:Program} {w:World} {K:PySem.W.Frag} {mg:Str->Option Value} {base:Heap}
noncomputable def JL:Sp:=fun vs H Q _=>∃ (j:gC) (qd:Addr) (kvs:List (Key×V)) (G:Nat->Nat),vs=[jV j,.ref qd]/\H qd=some (.dK kvs)/\(∀ k,j=.inr k->fX kvs (.inl (k:Nat))=some (.int (G k:Nat)))/\Q (.int (j5 G j:Nat)) H
theorem Pa:aU ["end","goals"] ["end","goals"] (aD (top 48)):=by ext
theorem M7 (F:fc K "goal_of" "goal_of" (top 48) f fd) (T:Txt K mg) (TW:tE mg):aQ P w K mg base bC 1 f fd ["end","goals"] JL:=by
 refine F.ok Pa (by ext) fun cdv A outer s H vs Q E hr h=>?_
 obtain ⟨j,qd,kvs,G,rfl,hd,hk,k⟩:=h
 obtain ⟨t0,m0⟩:=TW.no
 obtain ⟨t1,m1⟩:=TW.yes
 have hu:=vC hr
 refine ⟨_,(ak (a_ (bU (aG bK (by rfl) T.isinstance aV (aa (pv 0) (aa (cP rfl T.bool gk) aj)))) (aB (aJ (eN (bU (pv 0)) (cB (v:=.int 1) rfl m1 ⟨_,rfl⟩) (cB (v:=.int 0) rfl m0 ⟨_,rfl⟩)))) aL)
  (aB (aJ (cU hu (pv 1) (pv 0) (fun _ _=>rfl))))),?_⟩
 cases j with
 | inl b=>cases b with
   |true=>exact ⟨_,rfl,_,_,_,_,rfl,.bl true,rfl,_,rfl,b_ rfl ⟨_,rfl,_,rfl,b_ rfl k⟩⟩
   |false=>exact ⟨_,rfl,_,_,_,_,rfl,.bl false,rfl,_,rfl,b_ rfl ⟨_,rfl,_,rfl,bJ rfl k⟩⟩
 | inr n=>
   refine ⟨_,rfl,_,_,_,_,rfl,.int _,rfl,_,rfl,bJ rfl ?_⟩
   have:=jF.k (k:=.inl (n:Nat)) hd
   rw [hk n rfl] at this
   exact ⟨_,rfl,_,rfl,qd,_,rfl,this,k⟩
noncomputable def Gp (K:Frag):Sp:=fun vs H Q _=>∃ (p lw:Addr) (st:gC) (W:List jb),vs=[.ref p]/\cX K H p lw st W/\W.length≤100/\
 ∀ p' lw' H',H lw'=none->cX K H' p' lw' (xQ st W).1 (xQ st W).2->aC H H'->Q (.ref p') H'
noncomputable abbrev Ql:List Str:=["way","start","rows","laid","goals","at","leaf","yes","no"]
theorem ql:aU Ql ["way"] (aD (top 47)):=by ext
structure Qq (K:Frag) (H H':Hp) (W:List jb) (l qd:Addr) (i:Nat) (kvs:List (Key×V)):Prop where
 ld:qG K H' l (di W i).1
 hd:H' qd=some (.dK kvs)
 kl:kvs.length≤i
 gt:∀ k,W.length≤k+i->k<W.length->fX kvs (.inl (k:Nat))=some (.int ((di W i).2 k:Nat))
 sm:aC H H'
theorem Ky (F:fc K "shorter" "shorter" (top 47) f fd) (T:Txt K mg) (hrv:mg "reversed" = none) (DN:cj K mg "need_way" (top 39) ["way"] fN fdN) (GN:aQ P w K mg base bC 7 fN fdN ["way"] (yC K))
 (DG:cj K mg "goal_of" (top 48) ["end","goals"] fG fdG) (GG:aQ P w K mg base bC 1 fG fdG ["end","goals"] JL) (DL:cj K mg "lay_row" (top 42) F_ fL fdL) (GL:aQ P w K mg base bC 1 fL fdL F_ (Ea K)) (DW:cj K mg "way_from" (top 43) ["goal","laid"] fW fdW) (GW:aQ P w K mg base bC 1 fW fdW ["goal","laid"] (Dh K)) :
 aQ P w K mg base bC 8 f fd ["way"] (Gp K):=by
 refine F.ok ql (by ext) fun cdv A outer s H vs Q E hr h=>?_
 obtain ⟨p,lw,st,W,rfl,wa,wl,k⟩:=h
 have hr1:bR 1 _:=hr.mono (show 1≤7 by decide)
 have hu:=vC hr
 refine ⟨_,(ak (cJ (bO DN GN hr (aa (pv 0) aj)))
  (ak (cM (pv 0) (cD rfl (aP (aK (i:=1) ql.nd rfl (.inl rfl)) (aP (aK (i:=2) ql.nd rfl (.inl rfl)) bY))))
  (ak (bc (i:=3) ql.nd rfl (.inl rfl) (bM aj))
  (ak (bc (i:=4) ql.nd rfl (.inl rfl) zG)
  (ak (dH PassesOwn.never rfl (A_ rfl hrv rfl T.range (aa (aG aO (by rfl) T.len bH (aa (pv 2) aj)) aj)) (aK (i:=5) ql.nd rfl (.inl rfl))
   (ak (cM (aZ cF (pv 2) (pv 5) (fun _ _=>rfl)) (cD rfl (aP (aK (i:=6) ql.nd rfl (.inl rfl)) (aP (aK (i:=7) ql.nd rfl (.inl rfl)) (aP (aK (i:=8) ql.nd rfl (.inl rfl)) bY)))))
   (aB (iY hu (pv 4) (pv 5) (bO DL GL hr1 (aa (pv 6) (aa (bO DG GG hr1 (aa (pv 7) (aa (pv 4) aj))) (aa (bO DG GG hr1 (aa (pv 8) (aa (pv 4) aj))) (aa (pv 3) aj))))) rfl))))
  (aB (aJ (bO DW GW hr1 (aa (bO DG GG hr1 (aa (pv 1) (aa (pv 4) aj))) (aa (pv 3) aj)))))))))),?_⟩
 refine ⟨_,rfl,p,lw,st,W,rfl,wa,wl,fun H1 s1=>?_⟩
 obtain ⟨hp,⟨ws,hl,rs⟩,wo⟩:=wa
 have xl:=rs.length
 rw [List.length_map] at xl
 refine ⟨_,rfl,p,_,rfl,bD.of (s1 _ _ hp),rfl,_,_,rfl,_,_,rfl,rfl,?_⟩
 refine ⟨(by ext),fun l hl0=>?_⟩
 refine fun qd hqd=>?_
 have hl1:H l=none:=e_ s1 hl0
 have s2:=s1.trans ((aC.new (o:=.lst []) hl0).trans (aC.new (o:=.dK []) hqd))
 have hqd1:H qd=none:=e_ (s1.trans (aC.new (o:=.lst []) hl0)) hqd
 have nld:l≠qd:=aR au hqd
 have el:upd (upd H1 l (.lst [])) qd (.dK []) l=some (.lst []):=(aC.new hqd) _ _ au
 have ed:upd (upd H1 l (.lst [])) qd (.dK []) qd=some (.dK []):=au
 generalize upd (upd H1 l (.lst [])) qd (.dK [])=H2 at s2 el ed ⊢
 dsimp only [bG,List.set,L2.start]
 have big:1000≤sizeLine:=by decide
 refine ⟨_,rfl,lw,ws,rfl,.inl (bF.of (s2 _ _ hl)),(ws.length:Int),rfl,⟨by lia,by lia⟩,uJ (fun i σ H'=>∃ u5 u6 u7 u8 kvs,σ=[some (.ref p),some (jV st),some (.ref lw),some (.ref l),some (.ref qd),u5,u6,u7,u8]/\Qq K H H' W l qd i kvs) ⟨none,none,none,none,[],rfl,⟨[],el,.nil⟩,ed,Nat.le_refl _,fun k h1 h2=>by lia,s2⟩ ?_ ?_⟩
 ·rintro i σ H3 hi ⟨u5,u6,u7,u8,kvs,rfl,I⟩
  have hi:i<W.length:=by lia
  have sp:=yz wo (i:=i) (by lia)
  have en':(di W (i+1))=(((layR (di W i).1 ((cg W (W.length-1-i)).1,j5 (di W i).2 (cg W (W.length-1-i)).2.1,j5 (di W i).2 (cg W (W.length-1-i)).2.2)).1),fun k=>if k=W.length-1-i then (layR (di W i).1 ((cg W (W.length-1-i)).1,j5 (di W i).2 (cg W (W.length-1-i)).2.1,j5 (di W i).2 (cg W (W.length-1-i)).2.2)).2 else (di W i).2 k):=rfl
  have en:(ws.length:Int)-1-(i:Int)=((W.length-1-i:Nat):Int):=by lia
  rw [en]
  have hir:=dD (W:=W) (k:=W.length-1-i) (by lia)
  generalize hat:W.length-1-i=at_ at hir en' ⊢
  generalize cg W at_=r at hir en'
  obtain ⟨lf,j1,j2⟩:=cz wo hir
  obtain ⟨x,hx,rx⟩:=(rs.same I.sm).get (i:=at_) (d:=jN r) (by rw [List.getElem?_map,hir];rfl)
  obtain ⟨c,x0,rfl,sq,r1⟩:=jU rx
  have vv:∀ {j:gC},j6 at_ W.length j->∀ k,j=.inr k->fX kvs (.inl (k:Nat))=some (.int ((di W i).2 k:Nat)):=fun {j} jo k e=>by
   subst e
   have jo:at_<k/\k<W.length:=jo
   exact I.gt k (by lia) jo.2
  have g1:=lW (W:=W) (L:=(di W i).1) (G:=(di W i).2) (fun k h1 h2=>sp.lt k (by lia) h2) j1
  have g2:=lW (W:=W) (L:=(di W i).1) (G:=(di W i).2) (fun k h1 h2=>sp.lt k (by lia) h2) j2
  have la:=nJ (r:=(r.1,j5 (di W i).2 r.2.1,j5 (di W i).2 r.2.2)) sp.ok lf g1 g2
  dsimp only [bG,List.set]
  refine ⟨_,rfl,_,rfl,lw,_,_,_,rfl,rfl,bF.of (I.sm _ _ hl),aF hx,c,_,rfl,sq,rfl,_,_,rfl,_,_,rfl,_,_,rfl,rfl,?_⟩
  dsimp only [bG,List.set]
  have il:=sp.ll
  have ik:=I.kl
  refine ⟨_,rfl,_,rfl,_,rfl,r.2.1,qd,kvs,(di W i).2,rfl,I.hd,vv j1,_,rfl,_,rfl,r.2.2,qd,kvs,(di W i).2,rfl,I.hd,vv j2,_,rfl,x0,r.1,j5 (di W i).2 r.2.1,j5 (di W i).2 r.2.2,l,(di W i).1,rfl,r1,lf,I.ld,sp.ok,by lia,g1,g2,fun H4 ld b4=>?_⟩
  generalize hq:layR (di W i).1 (r.1,j5 (di W i).2 r.2.1,j5 (di W i).2 r.2.2)=q at la ld en' ⊢
  obtain ⟨L',g⟩:=q
  dsimp only at la ld en' ⊢
  have hd4:H4 qd=some (.dK kvs):=b4 _ _ I.hd nld.symm
  have s4:aC H H4:=fun b o e=>b4 _ _ (I.sm _ _ e) (aR e hl1)
  have pl:=gr kvs (.inl (at_:Nat)) (.int (g:Nat))
  refine ⟨_,rfl,_,rfl,qd,_,rfl,nG.k (k:=.inl (at_:Nat)) hd4 (Nat.lt_of_lt_of_le (show _<1000 by lia) big),?_⟩
  have b5:bW qd H4 (upd H4 qd (.dK (putK kvs (.inl (at_:Nat)) (.int (g:Nat))))):=bW.upd
  refine ⟨_,_,_,_,_,rfl,?_,au,by lia,fun k h1 h2=>?_,fun b o e=>by rw [aX (aR e hqd1)];exact s4 _ _ e⟩
  ·rw [en']
   obtain ⟨ys,hy,ry⟩:=ld
   refine ⟨ys,by rw [aX nld];exact hy,sJ.reps (fun a zs q=>?_) (ux la.ok) ry⟩
   rcases q with (q|⟨o,q⟩)|q
   ·exact .inl (.inl (b5 _ _ q (gw q hd4 (by intro z;cases z))))
   ·exact .inl (.inr ⟨o,b5 _ _ q (gw q hd4 (by intro z;cases z))⟩)
   ·exact .inr q
  ·rw [lL,en']
   dsimp only
   by_cases e:k=at_
   ·subst e
    rw [if_pos rfl,if_pos rfl]
   ·rw [if_neg (fun z=>e (nu.mp z)),if_neg e]
    exact I.gt k (by lia) h2
 ·rintro σ H3 ⟨u5,u6,u7,u8,kvs,rfl,I⟩
  have sp:=yz wo (Nat.le_refl _)
  have jst:(∃ b,st=.inl b)∨(st=.inr 0/\0<W.length):=by
   rcases wo with ⟨b,e,_⟩|⟨e,h,_⟩
   ·exact .inl ⟨b,e⟩
   ·exact .inr ⟨e,h⟩
  have xe:((ws.length:Nat):Int).toNat=W.length:=by lia
  rw [xe] at I
  have gs:j5 (di W W.length).2 st<(di W W.length).1.length+2/\∀ k,st=.inr k->fX kvs (.inl (k:Nat))=some (.int ((di W W.length).2 k:Nat)):=by
   rcases jst with ⟨b,rfl⟩|⟨rfl,h⟩
   ·exact ⟨lW (W:=W) (i:=0) (n:=0) (fun k _ h=>by lia) (j:=.inl b) trivial,fun k e=>by cases e⟩
   ·exact ⟨sp.lt 0 (by lia) h,fun k e=>by cases e;exact I.gt 0 (by lia) h⟩
  have il:=sp.ll
  refine ⟨_,rfl,_,rfl,st,qd,kvs,(di W W.length).2,rfl,I.hd,gs.2,_,rfl,j5 (di W W.length).2 st,l,(di W W.length).1,rfl,I.ld,sp.ok,by lia,gs.1,fun p' lw' ws' H4 h0 h1 h2 h3 s4=>k p' lw' H4 (I.sm.free h0) ⟨h1,⟨ws',h2,h3⟩,(mV sp.ok gs.1).1⟩ (I.sm.trans s4)⟩
end
inductive En (pz:PyData->Bool) (L:List Rw):Nat->Bool->Nat->Prop
 |no:En pz L 0 false 0
 |yes:En pz L 1 true 0
 |row {i:Nat} {r:Rw} {b:Bool} {n:Nat}:L[i]?=some r->En pz L (if pz r.1=true then r.2.1 else r.2.2) b n->En pz L (i+2) b (n+1)
theorem En.more (h:En pz L g b n):En pz (L++M) g b n:=by
 induction h with
 |no=>exact .no
 |yes=>exact .yes
 |row e _ ih=>exact .row (by rw [List.getElem?_append_left (List.getElem?_eq_some_iff.mp e).1];exact e) ih
theorem yO (wo:eO st W) (pz:PyData->Bool):∀ (m:Nat) (i:Nat) (j:gC),W.length≤m+i->j6 i W.length j->∃ b n,Wn pz W j b n/\n≤m
 |_,_,.inl b,_,_=>⟨b,0,.fin,Nat.zero_le _⟩
 |0,i,.inr k,h,jo=>by have:i<k/\k<W.length:=jo;lia
 | m+1,i,.inr k,h,jo=>by
   have jo:i<k/\k<W.length:=jo
   have hr:=dD jo.2
   obtain ⟨_,j1,j2⟩:=cz wo hr
   obtain ⟨b,n,w,l⟩:=yO wo pz m k (if pz (cg W k).1=true then (cg W k).2.1 else (cg W k).2.2) (by lia) (by split;exact j1;exact j2)
   exact ⟨b,n+1,.row hr w,by lia⟩
structure Mv (L:List Rw):Prop where
 nd:L.Nodup
 ne:∀ r∈L,r.2.1≠r.2.2
theorem lA (ok:mK L) (lf:k_ r.1):(r.2.1=r.2.2/\layR L r=(L,r.2.1))∨(r.2.1≠r.2.2/\∃ i:Nat,L[i]?=some r/\layR L r=(L,2+i))∨(r.2.1≠r.2.2/\r∉L/\layR L r=(L++[r],2+L.length)):=by
 unfold layR
 by_cases e:r.2.1=r.2.2
 ·exact .inl ⟨e,if_pos e⟩
 right
 rw [if_neg e]
 have mem:∀ {M:List Rw},(∀ q∈M,k_ q.1)->((M.map eE).any (fun e=>bV e (eE r))=true↔r∈M):=fun {M} hM=>by
  rw [List.any_map,List.any_eq_true]
  constructor
  ·rintro ⟨q,hq,h⟩
   exact (pM (hM q hq) lf).mp h ▸ hq
  ·exact fun h=>⟨r,h,(pM lf lf).mpr rfl⟩
 by_cases h:r∈L
 ·rw [if_pos ((mem ok.lf).mpr h)]
  have hj:(L.map eE).findIdx (fun e=>bV e (eE r))<(L.map eE).length:=List.findIdx_lt_length_of_exists (List.any_eq_true.mp ((mem ok.lf).mpr h))
  have hg:=List.findIdx_getElem (p:=fun e=>bV e (eE r)) (xs:=L.map eE) (w:=hj)
  rw [List.getElem_map] at hg
  refine .inl ⟨e,_,?_,rfl⟩
  rw [List.length_map] at hj
  rw [List.getElem?_eq_getElem hj,(pM (ok.lf _ (List.getElem_mem _)) lf).mp hg]
 ·rw [if_neg (fun z=>h ((mem ok.lf).mp z))]
  refine .inr ⟨e,h,?_⟩
  have:((L++[r]).map eE).findIdx (fun e=>bV e (eE r))=L.length:=by
   rw [List.map_append,List.findIdx_append]
   have h1:¬ ∃ x∈L.map eE,bV x (eE r)=true:=fun z=>h ((mem ok.lf).mp (List.any_eq_true.mpr z))
   have h2:(L.map eE).findIdx (fun e=>bV e (eE r))=(L.map eE).length:=List.findIdx_eq_length.mpr fun x hx=>by
    cases hb:bV x (eE r) with
    |false=>rfl
    |true=>exact absurd ⟨x,hx,hb⟩ h1
   rw [h2,if_neg (by lia)]
   have h3:([r].map eE).findIdx (fun e=>bV e (eE r))=0:=by
    rw [List.map_singleton,List.findIdx_cons,(pM lf lf).mpr rfl]
    rfl
   rw [h3,List.length_map]
   lia
  rw [this]
theorem Gj (ok:mK L) (ln:Mv L) (lf:k_ r.1):Mv (layR L r).1:=by
 rcases lA ok lf with ⟨_,e⟩|⟨_,i,_,e⟩|⟨h1,h2,e⟩
 ·rw [e];exact ln
 ·rw [e];exact ln
 ·rw [e]
  refine ⟨?_,fun q hq=>?_⟩
  ·rw [List.nodup_append]
   refine ⟨ln.nd,by simp,fun a ha b hb=>?_⟩
   cases List.mem_singleton.mp hb
   rintro rfl
   exact h2 ha
  ·rcases List.mem_append.mp hq with hq|hq
   ·exact ln.ne q hq
   ·cases List.mem_singleton.mp hq;exact h1
theorem Hl (ok:mK L) (lf:k_ r.1) (h:En pz L (if pz r.1=true then r.2.1 else r.2.2) b m):∃ m',m'≤m+1/\En pz (layR L r).1 (layR L r).2 b m':=by
 rcases lA ok lf with ⟨e1,e⟩|⟨_,i,hi,e⟩|⟨h1,h2,e⟩
 ·rw [e]
  refine ⟨m,by lia,?_⟩
  cases hp:pz r.1 with
  |true=>rw [hp] at h;exact h
  |false=>rw [hp] at h;rw [e1];exact h
 ·rw [e]
  refine ⟨m+1,Nat.le_refl _,?_⟩
  rw [Nat.add_comm 2 i]
  exact .row hi h
 ·rw [e]
  refine ⟨m+1,Nat.le_refl _,?_⟩
  rw [Nat.add_comm 2 L.length]
  exact .row (r:=r) (by rw [List.getElem?_append_right (Nat.le_refl _),Nat.sub_self];rfl) h.more
theorem zq (ok:mK L) (lf:k_ r.1):∃ M,(layR L r).1=L++M:=by
 rcases lA ok lf with ⟨_,e⟩|⟨_,i,_,e⟩|⟨h1,h2,e⟩
 ·exact ⟨[],by rw [e,List.append_nil]⟩
 ·exact ⟨[],by rw [e,List.append_nil]⟩
 ·exact ⟨[r],by rw [e]⟩
theorem oA (W:List jb) (i:Nat):di W (i+1)=((layR (di W i).1 ((cg W (W.length-1-i)).1,j5 (di W i).2 (cg W (W.length-1-i)).2.1,j5 (di W i).2 (cg W (W.length-1-i)).2.2)).1,
 fun k=>if k=W.length-1-i then (layR (di W i).1 ((cg W (W.length-1-i)).1,j5 (di W i).2 (cg W (W.length-1-i)).2.1,j5 (di W i).2 (cg W (W.length-1-i)).2.2)).2 else (di W i).2 k):=rfl
theorem Ae (wo:eO st W):∀ {i:Nat},i≤W.length->Mv (di W i).1
 |0,_=>⟨.nil,(fun _ h=>by cases h)⟩
 | i+1,h=>by
   rw [oA]
   exact Gj (yz wo (by lia)).ok (Ae wo (by lia)) (cz wo (dD (by lia))).1
theorem sS (wo:eO st W):∀ {i:Nat},i≤W.length->∀ {j:gC} {b:Bool} {n:Nat},Wn pz W j b n->(∀ k,j=.inr k->W.length≤k+i/\k<W.length)->∃ m,m≤n/\En pz (di W i).1 (j5 (di W i).2 j) b m
 |i,h,.inl true,_,_,.fin,_=>⟨0,Nat.le_refl _,.yes⟩
 |i,h,.inl false,_,_,.fin,_=>⟨0,Nat.le_refl _,.no⟩
 |0,h,.inr k,_,_,_,hk=>by have:=hk k rfl;lia
 | i+1,h,.inr k,b,n,w,hk=>by
   have hk:=hk k rfl
   have p:=yz wo (i:=i) (by lia)
   have hr:=dD (W:=W) (k:=W.length-1-i) (by lia)
   obtain ⟨lf,j1,j2⟩:=cz wo hr
   rw [oA]
   show ∃ m,m≤n/\En pz (layR _ _).1 (if k=W.length-1-i then _ else _) b m
   by_cases e:k=W.length-1-i
   ·rw [if_pos e]
    cases w with
    |@row _ r _ n' hr' w'=>
    rw [e,hr] at hr'
    cases hr'
    obtain ⟨m,hm,en⟩:=sS wo (i:=i) (by lia) w' fun k' e'=>by
     have:j6 (W.length-1-i) W.length (.inr k'):=by
      rw [← e']
      split
      ·exact j1
      ·exact j2
     have:W.length-1-i<k'/\k'<W.length:=this
     lia
    have en2:En pz (di W i).1 (if pz (cg W (W.length-1-i)).1=true then j5 (di W i).2 (cg W (W.length-1-i)).2.1 else j5 (di W i).2 (cg W (W.length-1-i)).2.2) b m:=by
     cases hp:pz (cg W (W.length-1-i)).1 with
     |true=>rw [hp] at en;exact en
     |false=>rw [hp] at en;exact en
    obtain ⟨m',hm',en'⟩:=Hl (r:=((cg W (W.length-1-i)).1,j5 (di W i).2 (cg W (W.length-1-i)).2.1,j5 (di W i).2 (cg W (W.length-1-i)).2.2)) p.ok lf en2
    exact ⟨m',by lia,en'⟩
   ·rw [if_neg e]
    obtain ⟨m,hm,en⟩:=sS wo (i:=i) (by lia) w fun k' e'=>by cases e';lia
    obtain ⟨M,eM⟩:=zq (r:=((cg W (W.length-1-i)).1,j5 (di W i).2 (cg W (W.length-1-i)).2.1,j5 (di W i).2 (cg W (W.length-1-i)).2.2)) p.ok lf
    rw [eM]
    exact ⟨m,hm,en.more⟩
theorem yD (ok:mK L) (o:xR L g (g-1) O R) (hl:g<L.length+2):∀ n∈O,n-2<L.length/\∀ m,m=(dZ L n).2.1∨m=(dZ L n).2.2->m<n/\(m<2∨m∈O):=fun n hn=>by
 have b:=o.bd n hn
 have hr:=gQ (L:=L) (n:=n) (by lia)
 refine ⟨by lia,fun m hm=>?_⟩
 have lo:=ok.lo _ _ hr
 have rr:=o.rr n hn _ hr
 have h1:m<n:=by rcases hm with rfl|rfl <;> lia
 refine ⟨h1,?_⟩
 by_cases h2:m<2
 ·exact .inl h2
 ·exact .inr (o.cl m (by rcases hm with rfl|rfl;exact rr.1;exact rr.2) (by lia) (by lia) (by lia))
theorem yx:∀ {O:List Nat} {a b:Nat},a∈O->O.idxOf a=O.idxOf b->a=b
 | x::t,a,b,ha,h=>by
   by_cases e:x=a
   ·subst e
    rw [List.idxOf_cons_self] at h
    by_cases e':x=b
    ·exact e'
    ·rw [m5 e'] at h;lia
   ·rw [m5 e] at h
    by_cases e':x=b
    ·subst e'
     rw [List.idxOf_cons_self] at h;lia
    ·rw [m5 e'] at h
     exact yx ((List.mem_cons.mp ha).resolve_left fun z=>e z.symm) (by lia)
theorem qt (ha:a<2∨a∈O) (hb:b<2∨b∈O) (h2:∀ n∈O,2≤n) (h:jK O a=jK O b):a=b:=by
 unfold jK at h
 by_cases a0:a=0
 ·by_cases b0:b=0
  ·lia
  ·rw [if_pos a0,if_neg b0] at h
   split at h
   ·injection h with h;cases h
   ·cases h
 ·by_cases a1:a=1
  ·by_cases b0:b=0
   ·rw [if_neg a0,if_pos a1,if_pos b0] at h;injection h with h;cases h
   ·by_cases b1:b=1
    ·lia
    ·rw [if_neg a0,if_pos a1,if_neg b0,if_neg b1] at h;cases h
  ·rw [if_neg a0,if_neg a1] at h
   by_cases b0:b=0
   ·rw [if_pos b0] at h;cases h
   ·by_cases b1:b=1
    ·rw [if_neg b0,if_pos b1] at h;cases h
    ·rw [if_neg b0,if_neg b1] at h
     injection h with h
     exact yx (ha.resolve_left (by lia)) h
theorem uR:∀ i,(∀ n∈(j8 L g i).1,n∈(j8 L g i).2)/\∀ x∈(j8 L g i).2,x=g∨∃ m∈(j8 L g i).1,(dZ L m).2.1=x∨(dZ L m).2.2=x
 |0=>⟨(fun _ h=>by cases h),fun x h=>.inl (List.mem_singleton.mp h)⟩
 | i+1=>by
   obtain ⟨h1,h2⟩:=uR (L:=L) (g:=g) i
   unfold j8
   by_cases hm:g-i∈(j8 L g i).2
   ·rw [if_pos hm]
    refine ⟨fun n hn=>?_,fun x hx=>?_⟩
    ·rcases List.mem_append.mp hn with hn|hn
     ·exact List.mem_append_left _ (h1 n hn)
     ·cases List.mem_singleton.mp hn;exact List.mem_append_left _ hm
    ·rcases List.mem_append.mp hx with hx|hx
     ·rcases h2 x hx with e|⟨m,a,b⟩
      ·exact .inl e
      ·exact .inr ⟨m,List.mem_append_left _ a,b⟩
     ·simp only [List.mem_cons,List.not_mem_nil,or_false] at hx
      exact .inr ⟨g-i,List.mem_append_right _ (by simp),by rcases hx with rfl|rfl;exact .inl rfl;exact .inr rfl⟩
   ·rw [if_neg hm]
    exact ⟨h1,h2⟩
structure Lean (st:gC) (W:List jb):Prop where
 wo:eO st W
 ne:∀ (i:Nat) (r:jb),W[i]?=some r->r.2.1≠r.2.2
 nd:W.Nodup
 rc:∀ i,0<i->i<W.length->∃ (k:Nat) (r:jb),k<i/\W[k]?=some r/\(r.2.1=.inr i∨r.2.2=.inr i)
theorem xj (ok:mK L) (ln:Mv L) (hl:g<L.length+2):Lean (j4 g L).1 (j4 g L).2:=by
 have wo:=(mV ok hl).1
 revert wo
 unfold j4
 by_cases h2:g<2
 ·rw [if_pos h2]
  exact fun wo=>⟨wo,(fun i r h=>by simp at h),.nil,fun i _ h=>by simp at h⟩
 ·rw [if_neg h2]
  intro wo
  have o:=jB ok hl (i:=g-1) (by lia)
  have cl:=yD ok o hl
  obtain ⟨s1,s2⟩:=uR (L:=L) (g:=g) (g-1)
  have two:∀ n∈(j8 L g (g-1)).1,2≤n:=fun n hn=>(o.bd n hn).1
  generalize (j8 L g (g-1)).1=O at *
  generalize (j8 L g (g-1)).2=R at *
  have nd:O.Nodup:=o.dec.imp fun h=>by lia
  have h0:=o.hd (by lia)
  have at_:∀ i r,(O.map fun n=>jE O (dZ L n))[i]?=some r->∃ n,O[i]?=some n/\r=jE O (dZ L n)/\n∈O:=fun i r h=>by
   rw [List.getElem?_map] at h
   obtain ⟨n,hn,rfl⟩:=Option.map_eq_some_iff.mp h
   exact ⟨n,hn,rfl,List.mem_of_getElem? hn⟩
  have rm:∀ n∈O,dZ L n∈L:=fun n hn=>List.mem_of_getElem? (gQ (cl n hn).1)
  refine ⟨wo,fun i r h=>?_,?_,fun i hi hl'=>?_⟩
  ·obtain ⟨n,_,rfl,hn⟩:=at_ i r h
   intro e
   exact ln.ne _ (rm n hn) (qt ((cl n hn).2 _ (.inl rfl)).2 ((cl n hn).2 _ (.inr rfl)).2 two e)
  ·show (O.map fun n=>jE O (dZ L n)).Pairwise (·≠·)
   rw [List.pairwise_map]
   refine List.Pairwise.imp_of_mem (fun {a b} ha hb hab e=>?_) nd
   unfold jE at e
   have e1:(dZ L a).1=(dZ L b).1:=congrArg (·.1) e
   have e2:jK O (dZ L a).2.1=jK O (dZ L b).2.1:=congrArg (·.2.1) e
   have e3:jK O (dZ L a).2.2=jK O (dZ L b).2.2:=congrArg (·.2.2) e
   have e2:=qt ((cl a ha).2 _ (.inl rfl)).2 ((cl b hb).2 _ (.inl rfl)).2 two e2
   have e3:=qt ((cl a ha).2 _ (.inr rfl)).2 ((cl b hb).2 _ (.inr rfl)).2 two e3
   have er:dZ L a=dZ L b:=Prod.ext e1 (Prod.ext e2 e3)
   have ga:=gQ (cl a ha).1
   have gb:=gQ (cl b hb).1
   rw [← er] at gb
   have:=(List.getElem?_inj (cl a ha).1 ln.nd).mp (ga.trans gb.symm)
   have:=two a ha
   have:=two b hb
   exact hab (by lia)
  ·rw [List.length_map] at hl'
   have hn:O[i]?=some O[i]:=List.getElem?_eq_getElem hl'
   have mn:O[i]∈O:=List.getElem_mem _
   have ix:O.idxOf O[i]=i:=nd.idxOf_getElem i hl'
   generalize O[i]=n at hn mn ix
   have ng:n≠g:=by
    rintro rfl
    have:=(List.getElem?_inj (by lia) nd).mp (h0.trans hn.symm)
    lia
   obtain ⟨m,mm,hm⟩:=(s2 n (s1 n mn)).resolve_left ng
   have lt:=((cl m mm).2 n (by rcases hm with h|h;exact .inl h.symm;exact .inr h.symm)).1
   have n2:=two n mn
   have ej:jK O n=.inr i:=by
    unfold jK
    rw [if_neg (by lia),if_neg (by lia),ix]
   have hk:=List.idxOf_lt_length_iff.mpr mm
   refine ⟨O.idxOf m,jE O (dZ L m),?_,?_,?_⟩
   ·rw [← ix];exact qH o.dec mm mn lt
   ·rw [List.getElem?_map,List.getElem?_eq_getElem hk,List.getElem_idxOf];rfl
   ·unfold jE
    dsimp only
    rw [← ej]
    rcases hm with h|h
    ·exact .inl (by rw [h])
    ·exact .inr (by rw [h])
theorem CK (ok:mK L) (hl:g<L.length+2) (h:En pz L g b m):Wn pz (j4 g L).2 (j4 g L).1 b m:=by
 unfold j4
 by_cases h2:g<2
 ·rw [if_pos h2]
  cases h with
  |no=>exact .fin
  |yes=>exact .fin
  |row=>lia
 ·rw [if_neg h2]
  have o:=jB ok hl (i:=g-1) (by lia)
  have cl:=yD ok o hl
  have two:∀ n∈(j8 L g (g-1)).1,2≤n:=fun n hn=>(o.bd n hn).1
  generalize (j8 L g (g-1)).1=O at *
  have nd:O.Nodup:=o.dec.imp fun h=>by lia
  have h0:=o.hd (by lia)
  have go:∀ {k:Nat} {b:Bool} {m:Nat},En pz L k b m->(k<2∨k∈O)->Wn pz (O.map fun n=>jE O (dZ L n)) (jK O k) b m:=by
   intro k b m h
   induction h with
   |no=>intro _;exact .fin
   |yes=>intro _;exact .fin
   | @row i r b n e _ ih=>
     intro hm
     have hm:=hm.resolve_left (by lia)
     have ej:jK O (i+2)=.inr (O.idxOf (i+2)):=by
      unfold jK
      rw [if_neg (by lia),if_neg (by lia)]
     rw [ej]
     have hi:=List.idxOf_lt_length_iff.mpr hm
     have c:=cl (i+2) hm
     have er:dZ L (i+2)=r:=by
      have:=gQ c.1
      rw [show i+2-2=i from by lia,e] at this
      exact (Option.some.inj this).symm
     rw [er] at c
     refine .row (r:=jE O r) (by rw [List.getElem?_map,List.getElem?_eq_getElem hi,List.getElem_idxOf,Option.map_some,er]) ?_
     show Wn pz _ (if pz r.1=true then jK O r.2.1 else jK O r.2.2) b n
     cases hp:pz r.1 with
     | true=>
       rw [hp] at ih
       exact ih (c.2 _ (.inl rfl)).2
     | false=>
       rw [hp] at ih
       exact ih (c.2 _ (.inr rfl)).2
  have:=go h (.inr (o.cl g o.rg (by lia) (Nat.le_refl _) (by lia)))
  have e:jK O g=.inr 0:=by
   unfold jK
   rw [if_neg (by lia),if_neg (by lia)]
   have pos:0<O.length:=(List.getElem?_eq_some_iff.mp h0).1
   have:O[0]=g:=(List.getElem?_eq_some_iff.mp h0).2
   rw [← this,nd.idxOf_getElem 0 pos]
  rw [e] at this
  exact this
theorem zH (wo:eO st W):j5 (di W W.length).2 st<(di W W.length).1.length+2:=by
 have sp:=yz wo (Nat.le_refl _)
 rcases wo with ⟨b,rfl,_⟩|⟨rfl,h,_⟩
 ·exact lW (W:=W) (i:=0) (n:=0) (fun k _ h=>by lia) (j:=.inl b) trivial
 ·exact sp.lt 0 (by lia) h
theorem uU (wo:eO st W):Lean (xQ st W).1 (xQ st W).2:=xj (yz wo (Nat.le_refl _)).ok (Ae wo (Nat.le_refl _)) (zH wo)
theorem xV (wo:eO st W):(xQ st W).2.length≤W.length:=Nat.le_trans (mV (yz wo (Nat.le_refl _)).ok (zH wo)).2.1 (yz wo (Nat.le_refl _)).ll
theorem Jj (wo:eO st W) (w:Wn pz W st b n):∃ m,m≤n/\Wn pz (xQ st W).2 (xQ st W).1 b m:=by
 obtain ⟨m,hm,en⟩:=sS wo (Nat.le_refl _) w fun k e=>by
  subst e
  rcases wo with ⟨b,e,_⟩|⟨e,h,_⟩
  ·cases e
  ·cases e;lia
 exact ⟨m,hm,CK (yz wo (Nat.le_refl _)).ok (zH wo) en⟩
noncomputable def gam (n:Nat):gC->Nat
 |.inl b=>if b=true then 1 else 0
 |.inr k=>n+1-k
noncomputable def uQ (n:Nat) (r:jb):Rw:=(r.1,gam n r.2.1,gam n r.2.2)
theorem qP:∀ {a b:gC},j6 i n a->j6 i n b->gam n a=gam n b->a=b
 |.inl true,.inl true,_,_,_=>rfl
 |.inl false,.inl false,_,_,_=>rfl
 |.inl true,.inl false,_,_,h=>by cases h
 |.inl false,.inl true,_,_,h=>by cases h
 | .inl true,.inr k,_,jo,h=>by
   have jo:i<k/\k<n:=jo
   have h:1=n+1-k:=h
   lia
 | .inl false,.inr k,_,jo,h=>by
   have jo:i<k/\k<n:=jo
   have h:0=n+1-k:=h
   lia
 | .inr k,.inl true,jo,_,h=>by
   have jo:i<k/\k<n:=jo
   have h:n+1-k=1:=h
   lia
 | .inr k,.inl false,jo,_,h=>by
   have jo:i<k/\k<n:=jo
   have h:n+1-k=0:=h
   lia
 | .inr k,.inr l,jo,jo',h=>by
   have jo:i<k/\k<n:=jo
   have jo':i<l/\l<n:=jo'
   have h:n+1-k=n+1-l:=h
   rw [show k=l by lia]
theorem j6.lo (h:j≤i):∀ {a:gC},j6 i n a->j6 j n a
 |.inl _,_=>trivial
 | .inr k,jo=>by
   have jo:i<k/\k<n:=jo
   exact ⟨by lia,jo.2⟩
theorem Ci (wo:eO st W) (ha:a<W.length) (hb:b<W.length) (h:uQ W.length (cg W a)=uQ W.length (cg W b)):cg W a=cg W b:=by
 obtain ⟨_,a1,a2⟩:=cz wo (dD ha)
 obtain ⟨_,b1,b2⟩:=cz wo (dD hb)
 unfold uQ at h
 have e1:(cg W a).1=(cg W b).1:=congrArg (·.1) h
 have e2:gam W.length (cg W a).2.1=gam W.length (cg W b).2.1:=congrArg (·.2.1) h
 have e3:gam W.length (cg W a).2.2=gam W.length (cg W b).2.2:=congrArg (·.2.2) h
 have f2:=qP (a1.lo (Nat.zero_le a)) (b1.lo (Nat.zero_le b)) e2
 have f3:=qP (a2.lo (Nat.zero_le a)) (b2.lo (Nat.zero_le b)) e3
 exact Prod.ext e1 (Prod.ext f2 f3)
theorem uP (le:Lean st W):∀ {i:Nat},i≤W.length->(di W i).1=(List.range i).map (fun j=>uQ W.length (cg W (W.length-1-j)))/\∀ k,W.length≤k+i->k<W.length->(di W i).2 k=W.length+1-k
 |0,_=>⟨rfl,fun k h1 h2=>by lia⟩
 | i+1,h=>by
   obtain ⟨e1,e2⟩:=uP le (i:=i) (by lia)
   have p:=yz le.wo (i:=i) (by lia)
   have hl:W.length-1-i<W.length:=by lia
   obtain ⟨lf,j1,j2⟩:=cz le.wo (dD hl)
   have eg:∀ {j:gC},j6 (W.length-1-i) W.length j->j5 (di W i).2 j=gam W.length j:=fun {j} jo=>by
    cases j with
    |inl b=>rfl
    | inr k=>
      have jo:W.length-1-i<k/\k<W.length:=jo
      exact e2 k (by lia) jo.2
   have er:((cg W (W.length-1-i)).1,j5 (di W i).2 (cg W (W.length-1-i)).2.1,j5 (di W i).2 (cg W (W.length-1-i)).2.2)=uQ W.length (cg W (W.length-1-i)):=by
    unfold uQ
    rw [eg j1,eg j2]
   have ly:layR (di W i).1 (uQ W.length (cg W (W.length-1-i)))=((di W i).1++[uQ W.length (cg W (W.length-1-i))],2+(di W i).1.length):=by
    rcases lA (r:=uQ W.length (cg W (W.length-1-i))) p.ok lf with ⟨e,_⟩|⟨_,q,hq,_⟩|⟨_,_,e⟩
    ·exact absurd (qP j1 j2 e) (le.ne _ _ (dD hl))
    ·exfalso
     rw [e1,List.getElem?_map] at hq
     obtain ⟨q',hq',e⟩:=Option.map_eq_some_iff.mp hq
     have hqi:=(List.getElem?_eq_some_iff.mp hq')
     obtain ⟨hqi,rfl⟩:=hqi
     rw [List.length_range] at hqi
     rw [List.getElem_range] at e
     have:=Ci le.wo (by lia) hl e
     have g1:=dD (W:=W) (k:=W.length-1-q) (by lia)
     have g2:=dD (W:=W) (k:=W.length-1-i) hl
     rw [this] at g1
     have:=(List.getElem?_inj (by lia) le.nd).mp (g1.trans g2.symm)
     lia
    ·exact e
   have len:(di W i).1.length=i:=by rw [e1,List.length_map,List.length_range]
   rw [oA,er,ly]
   refine ⟨?_,fun k h1 h2=>?_⟩
   ·dsimp only
    rw [List.range_succ,List.map_append,e1]
    rfl
   ·dsimp only
    by_cases e:k=W.length-1-i
    ·rw [if_pos e,len];lia
    ·rw [if_neg e];exact e2 k (by lia) h2
theorem wZ:∀ {k:Nat},k<n->((List.range n).map fun j=>n+1-j).idxOf (n+1-k)=k:=fun {k} hk=>by
 have nd:((List.range n).map fun j=>n+1-j).Nodup:=by
  show List.Pairwise (·≠·) _
  rw [List.pairwise_map]
  refine List.Pairwise.imp_of_mem (fun {a b} ha hb hab=>?_) List.pairwise_lt_range
  have:=List.mem_range.mp ha
  have:=List.mem_range.mp hb
  lia
 have hl:k<((List.range n).map fun j=>n+1-j).length:=by rw [List.length_map,List.length_range];exact hk
 have e:((List.range n).map fun j=>n+1-j)[k]=n+1-k:=by rw [List.getElem_map,List.getElem_range]
 rw [← e]
 exact nd.idxOf_getElem k hl
theorem Gu (le:Lean st W):xQ st W=(st,W):=by
 rcases le.wo with ⟨b,rfl,rfl⟩|⟨rfl,pos,wok⟩
 ·cases b <;> rfl
 obtain ⟨e1,e2⟩:=uP le (Nat.le_refl W.length)
 have eg:j5 (di W W.length).2 (.inr 0)=W.length+1:=e2 0 (by lia) pos
 unfold xQ
 rw [eg]
 generalize (di W W.length).1=L at e1
 have row:∀ k,k<W.length->dZ L (W.length+1-k)=uQ W.length (cg W k):=fun k hk=>by
  unfold dZ
  rw [e1,List.getElem?_map,List.getElem?_range (by lia)]
  show uQ W.length (cg W (W.length-1-(W.length+1-k-2)))=_
  rw [show W.length-1-(W.length+1-k-2)=k by lia]
 have rc:∀ i,i≤W.length->(j8 L (W.length+1) i).1=(List.range i).map (fun j=>W.length+1-j)/\W.length+1∈(j8 L (W.length+1) i).2/\∀ j,j<i->gam W.length (cg W j).2.1∈(j8 L (W.length+1) i).2/\gam W.length (cg W j).2.2∈(j8 L (W.length+1) i).2:=by
  intro i
  induction i with
  |zero=>exact fun _=>⟨rfl,by simp [j8],fun j h=>by lia⟩
  | succ i ih=>
    intro h
    obtain ⟨h1,h2,h3⟩:=ih (by lia)
    have hm:W.length+1-i∈(j8 L (W.length+1) i).2:=by
     by_cases hi:i=0
     ·subst hi;exact h2
     ·obtain ⟨k,r,hk,hr,hj⟩:=le.rc i (by lia) (by lia)
      have er:cg W k=r:=by
       have:=dD (W:=W) (k:=k) (by lia)
       rw [hr] at this
       exact (Option.some.inj this).symm
      have:=h3 k hk
      rw [er] at this
      rcases hj with hj|hj
      ·have:=this.1
       rw [hj] at this
       exact this
      ·have:=this.2
       rw [hj] at this
       exact this
    have es:j8 L (W.length+1) (i+1)=((j8 L (W.length+1) i).1++[W.length+1-i],(j8 L (W.length+1) i).2++[(dZ L (W.length+1-i)).2.1,(dZ L (W.length+1-i)).2.2]):=by
     conv=>lhs;unfold j8
     rw [if_pos hm]
    rw [es,row i (by lia)]
    refine ⟨?_,List.mem_append_left _ h2,fun j hj=>?_⟩
    ·dsimp only
     rw [h1,List.range_succ,List.map_append]
     rfl
    ·by_cases e:j=i
     ·subst e
      exact ⟨List.mem_append_right _ (by simp [uQ]),List.mem_append_right _ (by simp [uQ])⟩
     ·have:=h3 j (by lia)
      exact ⟨List.mem_append_left _ this.1,List.mem_append_left _ this.2⟩
 unfold j4
 rw [if_neg (by lia),show W.length+1-1=W.length from rfl,(rc _ (Nat.le_refl _)).1]
 refine Prod.ext rfl ?_
 dsimp only
 have jm:∀ {i:Nat} {j:gC},j6 i W.length j->jK ((List.range W.length).map fun j=>W.length+1-j) (gam W.length j)=j:=fun {i j} jo=>by
  cases j with
  |inl b=>cases b <;> rfl
  | inr k=>
    have jo:i<k/\k<W.length:=jo
    show jK _ (W.length+1-k)=_
    unfold jK
    rw [if_neg (by lia),if_neg (by lia),wZ jo.2]
 rw [List.map_map]
 refine List.ext_getElem? fun k=>?_
 rw [List.getElem?_map]
 by_cases hk:k<W.length
 ·rw [List.getElem?_range hk,dD hk]
  obtain ⟨_,j1,j2⟩:=cz le.wo (dD hk)
  show some (jE _ (dZ L (W.length+1-k)))=_
  rw [row k hk]
  unfold jE uQ
  dsimp only
  rw [jm j1,jm j2]
 ·rw [List.getElem?_eq_none (by rw [List.length_range];lia),List.getElem?_eq_none (by lia)]
  rfl
noncomputable abbrev JZ:=Bool ⊕ Int
noncomputable def gH:JZ->V
 |.inl b=>.bl b
 |.inr z=>.int z
noncomputable def Ig:JZ->PyData
 |.inl b=>.bool b
 |.inr z=>.int z
noncomputable def lM:gC->JZ
 |.inl b=>.inl b
 |.inr n=>.inr (n:Nat)
theorem Ca:∀ j:gC,jV j=gH (lM j)
 |.inl _=>rfl
 |.inr _=>rfl
theorem Ks:∀ j:gC,jD j=Ig (lM j)
 |.inl _=>rfl
 |.inr _=>rfl
theorem vz:∀ j:JZ,Rep K H (gH j) (Ig j)
 |.inl b=>.bl b
 |.inr n=>.int n
noncomputable abbrev WZ:=PyData×JZ×JZ
noncomputable def qM (r:WZ):PyData:=.tuple [r.1,Ig r.2.1,Ig r.2.2]
noncomputable def oY (r:jb):WZ:=(r.1,lM r.2.1,lM r.2.2)
theorem Il (r:jb):jN r=qM (oY r):=by
 unfold jN qM oY
 rw [Ks,Ks]
theorem DX (W:List jb):W.map jN=(W.map oY).map qM:=by
 rw [List.map_map]
 exact List.map_congr_left fun r _=>Il r
structure oO (K:Frag) (H:Hp) (p lw:Addr) (st:JZ) (W:List WZ):Prop where
 hp:H p=some (.tup [gH st,.ref lw])
 hl:∃ ws,H lw=some (.lst ws)/\bj K H ws (W.map qM)
theorem cX.z (h:cX K H p lw st W):oO K H p lw (lM st) (W.map oY):=by
 obtain ⟨hp,⟨ws,hl,rs⟩,_⟩:=h
 exact ⟨by rw [← Ca];exact hp,ws,hl,by rw [← DX];exact rs⟩
theorem oO.at (h:oO K H p lw (lM st) (W.map oY)) (wo:eO st W):cX K H p lw st W:=by
 obtain ⟨hp,ws,hl,rs⟩:=h
 exact ⟨by rw [Ca];exact hp,⟨ws,hl,by rw [DX];exact rs⟩,wo⟩
theorem oO.same (h:oO K H p lw st W) (s:aC H H'):oO K H' p lw st W:=
 let ⟨hp,ws,hl,rs⟩:=h
 ⟨s _ _ hp,ws,s _ _ hl,rs.same s⟩
noncomputable def Ie (st:JZ) (W:List WZ):Prop:=∃ st' W',st=lM st'/\W=W'.map oY/\eO st' W'
noncomputable def lB (i n:Nat):JZ->Prop
 |.inl _=>True
 |.inr z=>(i:Int)<z/\z<n
noncomputable def pY:JZ->gC
 |.inl b=>.inl b
 |.inr z=>.inr z.toNat
theorem m_:∀ {j:JZ},lB i n j->lM (pY j)=j/\j6 i n (pY j)
 |.inl _,_=>⟨rfl,trivial⟩
 | .inr z,h=>by
   have h:(i:Int)<z/\z<n:=h
   refine ⟨?_,show i<z.toNat/\z.toNat<n by lia⟩
   show (Sum.inr ((z.toNat:Nat):Int):JZ)=.inr z
   rw [show ((z.toNat:Nat):Int)=z by lia]
theorem Fy (pos:0<W.length) (h:∀ (i:Nat) (r:WZ),W[i]?=some r->k_ r.1/\lB i W.length r.2.1/\lB i W.length r.2.2):Ie (.inr 0) W:=by
 refine ⟨.inr 0,W.map fun r=>(r.1,pY r.2.1,pY r.2.2),rfl,?_,.inr ⟨rfl,by rw [List.length_map];exact pos,fun q hq=>?_,fun i q hq=>?_⟩⟩
 ·rw [List.map_map]
  refine List.ext_getElem? fun i=>?_
  rw [List.getElem?_map]
  cases hi:W[i]? with
  |none=>rfl
  | some r=>
    obtain ⟨_,h1,h2⟩:=h i r hi
    show some r=some (r.1,lM (pY r.2.1),lM (pY r.2.2))
    rw [(m_ h1).1,(m_ h2).1]
 ·obtain ⟨r,hr,rfl⟩:=List.mem_map.mp hq
  obtain ⟨i,hi⟩:=List.getElem?_of_mem hr
  exact (h i r hi).1
 ·rw [List.getElem?_map] at hq
  obtain ⟨r,hr,rfl⟩:=Option.map_eq_some_iff.mp hq
  obtain ⟨_,h1,h2⟩:=h i r hr
  rw [List.length_map]
  exact ⟨(m_ h1).2,(m_ h2).2⟩
theorem Ei:∀ {j:gC},j6 i n j->lB i n (lM j)
 |.inl _,_=>trivial
 | .inr k,h=>by
   have h:i<k/\k<n:=h
   exact ⟨by show (i:Int)<(k:Nat);lia,by show ((k:Nat):Int)<n;lia⟩
theorem nA (h:Ie st W) (hr:W[i]?=some r):k_ r.1/\lB i W.length r.2.1/\lB i W.length r.2.2:=by
 obtain ⟨st',W',rfl,rfl,wo⟩:=h
 rw [List.getElem?_map] at hr
 obtain ⟨q,hq,rfl⟩:=Option.map_eq_some_iff.mp hr
 obtain ⟨lf,j1,j2⟩:=cz wo hq
 rw [List.length_map]
 exact ⟨lf,Ei j1,Ei j2⟩
theorem p8 (h:lu f r):fH (.tuple (.str f::r))=true:=by
 have h1:=h.tr.sh
 have e2:bT (.tuple (.str f::r))=1:=by
  show (if (arity f).isSome=true then 1+dh r else 1)=1
  rw [h.ar];rfl
 have e3:cC (.tuple (.str f::r))=1:=by
  show (if (arity f).isSome=true then 1+eX r else 1)=1
  rw [h.ar];rfl
 unfold fH
 rw [h1,e2,e3]
 rfl
theorem u_:k_ (.tuple (.str f::r))↔fH (.tuple (.str f::r))=true/\¬ (f = "all"∨f = "not"∨f = "and"∨f = "or"):=by
 constructor
 ·rintro ⟨f',r',e,lf,na⟩
  cases e
  refine ⟨p8 lf,?_⟩
  obtain ⟨n1,n2,n3⟩:=jA lf.ar
  rintro (h|h|h|h)
  ·exact na h
  ·exact n1 h
  ·exact n2 h
  ·exact n3 h
 ·rintro ⟨h1,h2⟩
  obtain ⟨sh,de,_⟩:=iM h1
  rcases iZ sh de with ⟨ha,hlf⟩|N
  ·exact ⟨f,r,rfl,qw hlf,fun z=>h2 (.inl z)⟩
  ·exfalso
   have e:=vy f
   rw [N.ar] at e
   have e:f = "not"∨f = "and"∨f = "or":=by simpa using e
   exact h2 (.inr e)
theorem vH {W:List WZ} (h:∀ r∈W,TD r.1/\bI r.1≤8):bB (W.map qM)≤9:=by
 refine qe fun d hd=>?_
 obtain ⟨r,hr,rfl⟩:=List.mem_map.mp hd
 have:=(h r hr).2
 have jd:∀ j:JZ,bI (Ig j)=0:=fun j=>by cases j <;> rfl
 simp only [qM,bI,bB,jd]
 lia
theorem ur (h:Rep K H x (qM r)):∃ a x0,x=.ref a/\bD K H a [x0,gH r.2.1,gH r.2.2]/\Rep K H x0 r.1:=by
 have jv:∀ {v:V} {j:JZ},Rep K H v (Ig j)->v=gH j:=by
  intro v j h
  cases j with
  |inl b=>cases h;rfl
  |inr n=>cases h;rfl
 cases h with
 |@tup a us _ sq ru=>
 cases ru with|cons r1 r2=>cases r2 with|cons r2 r3=>cases r3 with|cons r3 r4=>
 cases r4
 cases jv r2
 cases jv r3
 exact ⟨a,_,rfl,sq,r1⟩
noncomputable def zY:JZ->Bool
 |.inl _=>true
 |.inr _=>false
noncomputable def Bb:Sp:=fun vs H Q _=>∃ j:JZ,vs=[gH j]/\Q (.bl (zY j)) H
theorem N7:aU ["_law_jump"] ["_law_jump"] (aD (top 77)):=by ext
theorem JW (F:fc K "_law_ended" "_law_ended" (top 77) f fd):aQ P w K mg base bC 1 f fd ["_law_jump"] Bb:=by
 refine F.ok N7 (by ext) fun cdv A outer s H vs Q E hr h=>?_
 obtain ⟨j,rfl,k⟩:=h
 refine ⟨_,(aB (aJ (Eh (bN yq (pv 0) cY (aN _)) (dI (bN yq (pv 0) cY (aN _)))))),?_⟩
 cases j with
 | inl b=>
   cases b with
   |true=>exact ⟨_,rfl,true,rfl,.inl ⟨_,rfl⟩,_,rfl,b_ rfl k⟩
   |false=>exact ⟨_,rfl,true,rfl,.inl ⟨_,rfl⟩,_,rfl,bJ rfl ⟨_,rfl,false,rfl,.inl ⟨_,rfl⟩,k⟩⟩
 |inr n=>exact ⟨_,rfl,true,rfl,.inr ⟨_,rfl⟩,_,rfl,bJ rfl ⟨_,rfl,false,rfl,.inr ⟨_,rfl⟩,k⟩⟩
noncomputable def Gk (K:Frag):Sp:=fun vs H Q _=>∃ (p lw:Addr) (st:JZ) (W:List WZ),vs=[.ref p]/\oO K H p lw st W/\W.length≤100/\(∀ r∈W,TD r.1/\bI r.1≤8)/\∀ b H',(b=true↔Ie st W)->aC H H'->Q (.bl b) H'
noncomputable abbrev Qg:List Str:=["_law_way","_law_start","_law_rows","_law_at","_law_leaf_here","_law_yes","_law_no","_law_jump"]
theorem rZ:aU Qg ["_law_way"] (aD (top 78)):=by ext
theorem Ly (F:fc K "_law_way_ok" "_law_way_ok" (top 78) f fd) (T:Txt K mg) (DE:cj K mg "_law_ended" (top 77) ["_law_jump"] fE fdE) (GE:aQ P w K mg base bC 1 fE fdE ["_law_jump"] Bb)
 (DT:cj K mg "_law_test_ok" (top 70) ["_law_test_here"] fT fdT) (GT:aQ P w K mg base bC 12 fT fdT ["_law_test_here"] (Iz K)):aQ P w K mg base bC 13 f fd ["_law_way"] (Gk K):=by
 refine F.ok rZ (by ext) fun cdv A outer s H vs Q E hr h=>?_
 obtain ⟨p,lw,st,W,rfl,⟨hp,ws,hl,rs⟩,wl,bd,k⟩:=h
 have hr1:bR 1 _:=hr.mono (show 1≤12 by decide)
 refine ⟨_,(ak (cM (pv 0) (cD rfl (aP (aK (i:=1) rZ.nd rfl (.inl rfl)) (aP (aK (i:=2) rZ.nd rfl (.inl rfl)) bY))))
  (ak (a_ (bU (bO DE GE hr1 (aa (pv 1) aj))) (aB (aJ (bN (lO hr.units) (pv 2) (bM aj) (aN _)))) aL)
  (ak (a_ (PW.pt (gJ (aH mC (pv 1) aA (aN _)) (fJ (aH (lO hr.units) (pv 2) (bM aj) (aN _))))) (aB (aJ cY)) aL)
  (ak (dH PassesOwn.never rfl (dG rfl T.range (aa (aG aO (by rfl) T.len bH (aa (pv 2) aj)) aj)) (aK (i:=3) rZ.nd rfl (.inl rfl))
   (ak (cM (aZ cF (pv 2) (pv 3) (fun _ _=>rfl)) (cD rfl (aP (aK (i:=4) rZ.nd rfl (.inl rfl)) (aP (aK (i:=5) rZ.nd rfl (.inl rfl)) (aP (aK (i:=6) rZ.nd rfl (.inl rfl)) bY)))))
   (ak (a_ (PW.pt (gJ (cN (bU (bO DT GT hr (aa (pv 4) aj)))) (fJ (aH dX (aZ aY (pv 4) aA (fun _ _=>rfl)) (bu (aa aM (aa aM (aa aM (aa aM aj))))) rfl)))) (aB (aJ cY)) aL)
   (aB (dH PassesOwn.never rfl (iB (bu (aa (pv 5) (aa (pv 6) aj)))) (aK (i:=7) rZ.nd rfl (.inl rfl)) (aB
    (a_ (PW.pt (gW (cN (bU (bO DE GE hr1 (aa (pv 7) aj)))) (ir (cN (rW jO jO (pv 3) (pv 7) (aG aO (by rfl) T.len bH (aa (pv 2) aj))))))) (aB (aJ cY)) aL)))))))
  (aB (aJ cY)))))),?_⟩
 have xl:=rs.length
 rw [List.length_map] at xl
 have rl:Rep K H (.ref lw) (.list (W.map qM)):=.lst (bF.of hl) rs
 have dp:=vH bd
 have dpl:bI (.list (W.map qM))≤60:=by show bB _+1≤60;lia
 have no:∀ {H'},¬ Ie st W->aC H H'->Q (.bl false) H':=fun h s=>k false _ ⟨(fun z=>by cases z),fun z=>absurd z h⟩ s
 refine ⟨_,rfl,p,_,rfl,bD.of hp,rfl,_,_,rfl,_,_,rfl,rfl,?_⟩
 refine ⟨_,rfl,st,rfl,_,rfl,?_⟩
 cases st with
 | inl b=>
   refine b_ rfl ⟨_,rfl,(by ext),fun q hq=>?_⟩
   refine ⟨_,.list [],rl.same (aC.new hq),.lst (bF.of au) .nil,dpl,k _ _ ?_ (aC.new hq)⟩
   cases W with
   |nil=>exact ⟨fun _=>⟨.inl b,[],rfl,rfl,.inl ⟨b,rfl,rfl⟩⟩,fun _=>rfl⟩
   | cons r t=>
     refine ⟨fun z=>by simp [bV,cZ] at z,fun ⟨st',W',e1,e2,wo⟩=>?_⟩
     rcases wo with ⟨_,_,rfl⟩|⟨rfl,_⟩
     ·cases e2
     ·cases e1
 | inr z=>
   refine bJ rfl ⟨_,rfl,rfl,_,rfl,?_⟩
   by_cases hz:z=0
   ·subst hz
    refine bJ rfl ⟨_,rfl,(by ext),fun q hq=>?_⟩
    refine ⟨_,.list [],rl.same (aC.new hq),.lst (bF.of au) .nil,dpl,_,rfl,?_⟩
    have s0:aC H (upd H q (.lst [])):=aC.new hq
    generalize upd H q (.lst [])=H0 at s0 ⊢
    by_cases hW:W=[]
    ·subst hW
     refine b_ rfl (no (fun ⟨st',W',e1,e2,wo⟩=>?_) s0)
     rcases wo with ⟨_,rfl,_⟩|⟨_,pos,_⟩
     ·cases e1
     ·rw [← List.length_map (f:=oY),← e2] at pos;simp at pos
    have pos:0<W.length:=List.length_pos_iff.mpr hW
    refine bJ ?_ ?_
    ·cases W with
     |nil=>exact absurd rfl hW
     |cons r t=>rfl
    dsimp only [bG,List.set,L2.start]
    have big:200000≤sizeLine:=by decide
    refine ⟨_,rfl,lw,ws,rfl,.inl (bF.of (s0 _ _ hl)),(ws.length:Int),rfl,by lia,by lia,fZ (lo:=0) (fun i σ' H'=>(∃ u3 u4 u5 u6 u7,σ'=[some (.ref p),some (gH (.inr 0)),some (.ref lw),u3,u4,u5,u6,u7])/\aC H H'/\∀ (k:Nat) (r:WZ),k<i->W[k]?=some r->k_ r.1/\lB k W.length r.2.1/\lB k W.length r.2.2) ⟨⟨_,_,_,_,_,rfl⟩,s0,fun k r h=>by lia⟩ ?_ ?_⟩
    ·rintro i σ' H1 hi ⟨⟨u3,u4,u5,u6,u7,rfl⟩,s1,all⟩
     have hi:i<ws.length:=by lia
     rw [Int.zero_add]
     obtain ⟨d,hd,rx⟩:=(rs.same s1).get' (List.getElem?_eq_getElem hi)
     rw [List.getElem?_map] at hd
     obtain ⟨r,hir,rfl⟩:=Option.map_eq_some_iff.mp hd
     obtain ⟨td,dp8⟩:=bd r (List.mem_of_getElem? hir)
     obtain ⟨c,x0,ex,sq,r1⟩:=ur rx
     have hx:=List.getElem?_eq_getElem hi
     rw [ex] at hx
     dsimp only [bG,List.set]
     refine ⟨_,rfl,_,rfl,lw,_,_,_,rfl,rfl,bF.of (s1 _ _ hl),aF hx,c,_,rfl,sq,rfl,_,_,rfl,_,_,rfl,_,_,rfl,rfl,?_⟩
     dsimp only [bG,List.set]
     refine ⟨_,rfl,x0,_,rfl,r1,td,dp8,fun H2 s2=>⟨_,rfl,?_⟩⟩
     have S2:=s1.trans s2
     cases ht:fH r.1 with
     | false=>
       refine b_ rfl (no (fun ok=>?_) S2)
       obtain ⟨⟨f',r',er,lf',_⟩,_⟩:=nA ok hir
       rw [er,p8 lf'] at ht
       cases ht
     |true=>
     refine bJ rfl ?_
     obtain ⟨f',r',er⟩:=dj td (iM ht).1
     rw [er] at r1 ht
     cases r1 with
     |@tup q' us _ sq' rs'=>
     obtain ⟨y0,ys,rfl⟩:∃ y0 ys,us=y0::ys:=by cases rs';exact ⟨_,_,rfl⟩
     obtain ⟨ry0,_⟩:Rep K H1 y0 (.str f')/\bj K H1 ys r':=by cases rs' with|cons a b=>exact ⟨a,b⟩
     cases ry0
     refine ⟨_,rfl,q',_,_,_,rfl,rfl,s2.tup sq',aF (j:=0) rfl,(by ext),fun t ht'=>?_⟩
     refine ⟨t,_,rfl,.inr (bD.of au),rfl,rfl,_,rfl,?_⟩
     have s3:=S2.trans (aC.new (o:=.tup [.str "all",.str "not",.str "and",.str "or"]) ht')
     generalize upd H2 t (.tup [.str "all",.str "not",.str "and",.str "or"])=H3 at s3 ⊢
     have ein:inV (.str f') [.str "all",.str "not",.str "and",.str "or"]=decide (f' = "all"∨f' = "not"∨f' = "and"∨f' = "or"):=by
      unfold inV
      simp only [List.any_cons,List.any_nil,Bool.or_false,Bl]
      rw [Bool.eq_iff_iff]
      simp only [Bool.or_eq_true,decide_eq_true_eq]
      constructor
      ·rintro (h|h|h|h)
       ·exact .inl h.symm
       ·exact .inr (.inl h.symm)
       ·exact .inr (.inr (.inl h.symm))
       ·exact .inr (.inr (.inr h.symm))
      ·rintro (h|h|h|h)
       ·exact .inl h.symm
       ·exact .inr (.inl h.symm)
       ·exact .inr (.inr (.inl h.symm))
       ·exact .inr (.inr (.inr h.symm))
     by_cases hf:f' = "all"∨f' = "not"∨f' = "and"∨f' = "or"
     ·refine b_ (ein.trans (decide_eq_true hf)) (no (fun ok=>?_) s3)
      have:=(nA ok hir).1
      rw [er] at this
      exact (u_.mp this).2 hf
     refine bJ (ein.trans (decide_eq_false hf)) ?_
     have lfa:k_ r.1:=by rw [er];exact u_.mpr ⟨ht,hf⟩
     refine ⟨_,rfl,_,rfl,(by ext),fun t2 ht2=>?_⟩
     have s4:=s3.trans (aC.new (o:=.tup [gH r.2.1,gH r.2.2]) ht2)
     have e4:upd H3 t2 (.tup [gH r.2.1,gH r.2.2]) t2=some (.tup [gH r.2.1,gH r.2.2]):=au
     generalize upd H3 t2 (.tup [gH r.2.1,gH r.2.2])=H4 at s4 e4 ⊢
     refine ⟨t2,rfl,⟨_,bD.of e4⟩,mW (K:=K) (a:=t2) (xs:=[gH r.2.1,gH r.2.2]) (fun m σ' H'=>(∃ u7,σ'=[some (.ref p),some (gH (.inr 0)),some (.ref lw),some (.int (i:Int)),some (.ref q'),some (gH r.2.1),some (gH r.2.2),u7])/\aC H4 H'/\(0<m->lB i W.length r.2.1)/\(1<m->lB i W.length r.2.2)) ⟨⟨_,rfl⟩,aC.refl _,fun h=>by lia,fun h=>by lia⟩ (fun m σ' H' _ ⟨_,e,_⟩=>bD.of (e _ _ e4)) ?_ ?_⟩
     ·rintro m x σ' H5 hm ⟨⟨u7',rfl⟩,s5,a1,a2⟩
      obtain ⟨j,rfl,up⟩:∃ j:JZ,x=gH j/\(lB i W.length j->(0<m+1->lB i W.length r.2.1)/\(1<m+1->lB i W.length r.2.2))/\(Ie (.inr 0) W->lB i W.length j):=by
       match m,hm with
       |0,hm=>exact ⟨r.2.1,by simpa using hm.symm,fun h=>⟨fun _=>h,fun h=>by lia⟩,fun ok=>(nA ok hir).2.1⟩
       |1,hm=>exact ⟨r.2.2,by simpa using hm.symm,fun h=>⟨fun _=>a1 (by lia),fun _=>h⟩,fun ok=>(nA ok hir).2.2⟩
       |m+2,hm=>simp at hm
      dsimp only [bG,List.set]
      refine ⟨_,rfl,j,rfl,_,rfl,?_⟩
      cases j with
      |inl b=>exact bJ rfl (bJ rfl ⟨⟨_,rfl⟩,s5,up.1 trivial⟩)
      | inr z=>
        refine b_ rfl ?_
        refine ⟨_,rfl,_,rfl,_,_,rfl,rfl,_,rfl,?_⟩
        by_cases h1:(i:Int)<z
        ·refine b_ (decide_eq_true h1) ⟨_,rfl,lw,ws,rfl,.inl (bF.of ((s4.trans s5) _ _ hl)),_,_,rfl,rfl,_,rfl,?_⟩
         by_cases h2:z<(ws.length:Int)
         ·exact bJ (by rw [decide_eq_true h2];rfl) ⟨⟨_,rfl⟩,s5,up.1 ⟨h1,by lia⟩⟩
         ·refine b_ (by rw [decide_eq_false h2];rfl) (no (fun ok=>?_) (s4.trans s5))
          have:(i:Int)<z/\z<W.length:=up.2 ok
          lia
        ·refine bJ (decide_eq_false h1) ⟨_,rfl,b_ rfl (no (fun ok=>?_) (s4.trans s5))⟩
         have:(i:Int)<z/\z<W.length:=up.2 ok
         lia
     ·rintro σ' H5 ⟨⟨u7',rfl⟩,s5,a1,a2⟩
      refine ⟨⟨_,_,_,_,_,rfl⟩,s4.trans s5,fun k' r' hk hr'=>?_⟩
      by_cases e:k'=i
      ·subst e
       rw [hir] at hr'
       cases hr'
       exact ⟨lfa,a1 (by show 0<2;decide),a2 (by show 1<2;decide)⟩
      ·exact all k' r' (by lia) hr'
    ·rintro σ' H1 ⟨_,s1,all⟩
     refine k true _ ⟨fun _=>Fy pos fun i r hr=>all i r ?_ hr,fun _=>rfl⟩ s1
     have:=(List.getElem?_eq_some_iff.mp hr).1
     lia
   ·refine b_ (by show (!decide (V.int z=V.int 0))=true;rw [ii,decide_eq_false hz];rfl) (no (fun ⟨st',W',e1,e2,wo⟩=>?_) (aC.refl _))
    rcases wo with ⟨_,rfl,_⟩|⟨rfl,_⟩
    ·cases e1
    ·injection e1 with e1;exact hz e1
inductive Bw (k:Nat):Nat->PyData->Prop
 |str {n:Nat} {x:Str}:ie x->x.length≤40->Bw k n (.str x)
 |int {n:Nat} {i:Int}:-qX≤i->i≤qX->Bw k n (.int i)
 |nil {n:Nat}:Bw k (n+1) (.tuple [])
 |node {n:Nat} {f:Str} {r:List PyData}:ie f->f.length≤40->r.length≤k->(∀ d∈r,Bw k n d)->Bw k (n+1) (.tuple (.str f::r))
theorem Bw.mono (hk:k≤k') (h:Bw k n e):∀ {n':Nat},n≤n'->Bw k' n' e:=by
 induction h with
 |str a b=>exact fun _=>.str a b
 |int a b=>exact fun _=>.int a b
 | nil=>
   intro n' hn
   obtain ⟨m,rfl⟩:∃ m,n'=m+1:=⟨n'-1,by lia⟩
   exact .nil
 | node a b c _ ih=>
   intro n' hn
   obtain ⟨m,rfl⟩:∃ m,n'=m+1:=⟨n'-1,by lia⟩
   exact .node a b (by lia) fun d m=>ih d m (by lia)
theorem Bw.td (h:Bw k n e) (hk:k≤4):TD e:=by
 induction h with
 |str a b=>exact .str a b
 |int a b=>exact .int a b
 |nil=>exact .nil
 |node a b c _ ih=>exact .node a b (by lia) ih
theorem Bw.dp (h:Bw k n e):bI e≤n:=by
 induction h with
 |str _ _=>exact Nat.zero_le _
 |int _ _=>exact Nat.zero_le _
 |nil=>simp [bI,bB]
 | node a b c _ ih=>
   have:=qe ih
   simp only [bI,bB]
   lia
theorem lX:Bw k (n+1) (.tuple [.str "all"]):=.node (by unfold ie;decide +kernel) (by ext) (by simp) (by simp)
noncomputable def Ad (K:Frag) (n:Nat):Sp:=fun vs H Q _=>∃ (p dc:Addr) (x:V) (d:PyData) (kw:Nat),vs=[.ref p,x]/\Dr H p dc/\Rep K H x d/\Bw kw n d/\2≤kw/\kw≤3/\n≤10/\∀ (y:V) (e:PyData) (H':Hp),Rep K H' y e->Bw (kw+1) (n+1) e->Dr H' p dc->bW p H H'->Q y H'
noncomputable abbrev Qd:List Str:=["_law_d","_law_test_here","_law_way","_law_at"]
theorem Gv:aU Qd ["_law_d","_law_test_here"] (aD (top 71)):=by ext
theorem DY {f fP fO fW fFr fOd:Addr} {fd fdP fdO fdW fdFr fdOd:FuncData} (DB:cj K mg "_law_bent_test" (top 71) ["_law_d","_law_test_here"] f fd) (T:Txt K mg) (DP:cj K mg "_law_pick" (top 51) ["_law_d","_law_many"] fP fdP) (DO:cj K mg "_law_of" (top 52) ["_law_d","_law_things"] fO fdO)
 (DW:cj K mg "_law_word" (top 55) ["_law_d"] fW fdW) (DFr:cj K mg "_law_far" (top 53) ["_law_d"] fFr fdFr) (DOd:cj K mg "_law_odd_name" (top 61) ["_law_d","_law_text"] fOd fdOd) (n:Nat):aQ P w K mg base bC (n+4) f fd ["_law_d","_law_test_here"] (Ad K n):=by
 have GP:aQ P w K mg base bC 1 fP fdP ["_law_d","_law_many"] d_:=dw DP.F T
 have GO:aQ P w K mg base bC 2 fO fdO ["_law_d","_law_things"] (oU K):=lJ DO.F T DP
 have GW:aQ P w K mg base bC 3 fW fdW ["_law_d"] nO:=qD DW.F T DP DO
 have GF:aQ P w K mg base bC 2 fFr fdFr ["_law_d"] xT:=zE DFr.F T DP
 have GOd:aQ P w K mg base bC 3 fOd fdOd ["_law_d","_law_text"] Eo:=Hx DOd.F T DP DO
 have main:∀ m:Nat,(∀ j,j+1=m->aQ P w K mg base bC (j+4) f fd ["_law_d","_law_test_here"] (Ad K j))->aQ P w K mg base bC (m+4) f fd ["_law_d","_law_test_here"] (Ad K m):=by
  intro m GC
  have GB:aQ P w K mg base bC (m+3) f fd ["_law_d","_law_test_here"] (fun vs H Q E=>∃ j,j+1=m/\Ad K j vs H Q E):=by
   match m,GC with
   |0,_=>exact ⟨fun _ _ _ _ ⟨n,e,_⟩=>by lia,fun _ _ _ _ _ _ _ _ _ _ _ _ _ ⟨n,e,_⟩=>by lia⟩
   | m+1,GC=>
     have G:=GC m rfl
     exact ⟨fun vs H Q E ⟨n,e,h⟩=>by cases e;exact G.1 vs H Q E h,fun a1 a2 a3 a4 a5 a6 a7 a8 a9 a10 a11 a12 a13 ⟨n,e,h⟩=>by cases e;exact G.2 a1 a2 a3 a4 a5 a6 a7 a8 a9 a10 a11 a12 a13 h⟩
  refine DB.F.ok Gv (fun vs H Q E h=>?_) (fun cdv A outer s H vs Q E hr h=>?_)
  ·obtain ⟨p,dc,x,d,kw,rfl,_⟩:=h
   rfl
  ·obtain ⟨p,dc,x,d,kw,rfl,D,rd,tr,k2,k3,hm,k⟩:=h
   have hr1:bR 1 _:=hr.mono (by lia)
   have hr2:bR 2 _:=hr.mono (by lia)
   have hr3:bR 3 _:=hr.mono (by lia)
   refine ⟨_,(ak (a_ (PW.pt (gJ (cN (bU (aG bK (by rfl) T.isinstance aV (aa (pv 1) (aa (cP rfl T.tuple fu) aj))))) (fJ (aH (lO hr.units) (pv 1) (bu aj) (aN _))))) (aB (aJ (pv 1))) aL)
    (ak (bc (i:=2) Gv.nd rfl (.inl rfl) (bO DP GP hr1 (aa (pv 0) (aa aA aj))))
    (ak (a_ (PW.pt (gW (aH nW (aG aO (by rfl) T.len bH (aa (pv 1) aj)) aA (aN _)) (gW (aH dX (aZ aY (pv 1) aA (fun _ _=>rfl)) (bu (aa aM (aa aM (aa aM aj)))) rfl) (ir (aH bz (bO DP GP hr1 (aa (pv 0) (aa aA aj))) aA (aN _)))))) (ak (bc (i:=3) Gv.nd rfl (.inl rfl) (bh cH aA (bO DP GP hr1 (aa (pv 0) (aa (bh dM (aG aO (by rfl) T.len bH (aa (pv 1) aj)) aA) aj))))) (aB (aJ (bh ni (bh ni (cG gn (pv 1) cW (cR (pv 3))) (bu (aa (bO DB GB hr (aa (pv 0) (aa (aZ aY (pv 1) (pv 3) (fun _ _=>rfl)) aj))) aj))) (cG gn (pv 1) (cR (bh cH (pv 3) aA)) cW))))) aL)
    (ak (a_ (aH bz (pv 2) aA (aN _)) (aB (aJ (cG gn (pv 1) cW (cR (jL iu aA))))) aL)
    (ak (a_ (aH bz (pv 2) aA (aN _)) (aB (aJ (bh ni (pv 1) (bu (aa (bO DO GO hr2 (aa (pv 0) (aa (bM (aa (bu (aa aM aj)) (aa aA (aa aM aj)))) aj))) aj))))) aL)
    (ak (a_ (aH bz (pv 2) aA (aN _)) (aB (aJ (bh ni (bu (aa (bO DO GO hr2 (aa (pv 0) (aa (bM (aa aM (aa aM (aa aM (aa aM (aa aM aj)))))) aj))) aj)) (cG gn (pv 1) (cR aA) cW)))) aL)
    (ak (a_ (aH bz (pv 2) aA (aN _)) (aB (aJ (bu (aa aM (aa (bO DOd GOd hr3 (aa (pv 0) (aa (bO DW GW hr3 (aa (pv 0) aj)) aj))) (aa aA aj)))))) aL)
    (ak (a_ (aH bz (pv 2) aA (aN _)) (aB (aJ (bu (aa aM (aa (bO DW GW hr3 (aa (pv 0) aj)) (aa (bO DO GO hr2 (aa (pv 0) (aa (bM (aa aA (aa (jL iu aA) (aa (bO DFr GF hr2 (aa (pv 0) aj)) (aa (bu (aa aM aj)) aj))))) aj))) aj)))))) aL)
    (ak (a_ (aH bz (pv 2) aA (aN _)) (aB (aJ (bu (aa aM (aa (bO DOd GOd hr3 (aa (pv 0) (aa (bO DW GW hr3 (aa (pv 0) aj)) aj))) aj))))) aL)
    (ak (a_ (aH bz (pv 2) aA (aN _)) (aB (aJ (bu (aa aM (aa (pv 1) (aa (pv 1) aj)))))) aL)
    (ak (a_ (aH bz (pv 2) aA (aN _)) (aB (aJ (bu (aa aM (aa (pv 1) aj))))) aL)
    (ak (a_ (aH bz (pv 2) aA (aN _)) (aB (aJ (bu (aa aM (aa (pv 1) (aa (bO DO GO hr2 (aa (pv 0) (aa (bM (aa aM (aa aA (aa (bu (aa aM aj)) aj)))) aj))) aj)))))) aL)
    (aB (aJ (pv 1))))))))))))))),?_⟩
   have rd0:=rd
   have tr0:=tr
   have tdp:=tr.dp
   cases tr with
   | str sa sl=>
     cases rd
     exact ⟨_,rfl,_,_,_,_,rfl,.str _,rfl,_,rfl,b_ rfl ⟨_,rfl,k _ _ H (.str _) (.str sa sl) D bW.refl⟩⟩
   | int sa sl=>
     cases rd
     exact ⟨_,rfl,_,_,_,_,rfl,.int _,rfl,_,rfl,b_ rfl ⟨_,rfl,k _ _ H (.int _) (.int sa sl) D bW.refl⟩⟩
   | nil=>
     refine ⟨_,rfl,_,_,_,_,rfl,rd0,rfl,_,rfl,bJ rfl ⟨_,rfl,(by ext),fun t0 ht0=>?_⟩⟩
     exact ⟨_,_,rd0.same (aC.new ht0),.tup (bD.of au) .nil,by simp [bI,bB],_,rfl,b_ rfl ⟨_,rfl,k _ _ _ (rd0.same (aC.new ht0)) .nil (D.new ht0) (bW.new ht0)⟩⟩
   |@node n f r af lf lr bds=>
   cases rd with
   |@tup a xs _ sq rs=>
   obtain ⟨x0,ys,rfl⟩:∃ x0 ys,xs=x0::ys:=by cases rs;exact ⟨_,_,rfl⟩
   obtain ⟨r0,rt⟩:Rep K H x0 (.str f)/\bj K H ys r:=by cases rs with|cons a b=>exact ⟨a,b⟩
   cases r0
   have hl:=rt.length
   have bd0:Bw (kw+1) (n+1) (.tuple (.str f::r)):=tr0.mono (by lia) (Nat.le_refl _)
   have h1000:1000≤sizeLine:=by decide
   have hu:(1000000:Int)≤qX:=by decide
   refine ⟨_,rfl,_,_,_,_,rfl,rd0,rfl,_,rfl,bJ rfl ?_⟩
   refine ⟨_,rfl,(by ext),fun t0 ht0=>?_⟩
   have s0:aC H (upd H t0 (.tup [])):=aC.new ht0
   refine ⟨_,_,rd0.same s0,.tup (bD.of au) .nil,?_,_,rfl,bJ rfl ?_⟩
   ·lia
   have D0:Dr (upd H t0 (.tup [])) p dc:=D.mono s0
   have rd1:=rd0.same s0
   have b0:bW p H (upd H t0 (.tup [])):=s0.but
   generalize upd H t0 (.tup [])=H0 at s0 D0 rd1 b0 ⊢
   refine ⟨_,rfl,p,dc,_,rfl,D0,by decide,by decide,fun w1 H1 w0 w10 D1 b1=>?_⟩
   have rd2:=D0.rep b1 rd1
   have b01:=b0.trans b1
   clear rd1 b1 D0 s0
   try dsimp only [bG]
   refine eU (fun σ' H'=>(∃ u,σ'=[some (.ref p),some (.ref a),some (.int w1),u])/\Dr H' p dc/\bW p H H'/\Rep K H' (.ref a) (.tuple (.str f::r))) ?nx fun N hN=>?st
   case st=>
    have sqOf:∀ {H':Hp},Rep K H' (.ref a) (.tuple (.str f::r))->∃ zs,bD K H' a (.str f::zs)/\bj K H' zs r:=by
     intro H' h
     cases h with
     |@tup _ zs _ q1 q2=>
     cases q2 with
     |@cons z0 _ zs _ q3 q4=>
     cases q3
     exact ⟨zs,q1,q4⟩
    obtain ⟨zs,sq2,rz2⟩:=sqOf rd2
    have hz:=rz2.length
    refine ⟨_,rfl,a,_,rfl,.inr sq2,_,_,rfl,rfl,_,rfl,dC (fun hlen=>?_) (fun _=>hN _ _ ⟨⟨_,rfl⟩,D1,b01,rd2⟩)⟩
    refine ⟨_,rfl,a,_,_,_,rfl,rfl,sq2,aF (j:=0) rfl,(by ext),fun t ht=>?_⟩
    have s2:aC H1 (upd H1 t (.tup [.str "not",.str "and",.str "or"])):=aC.new ht
    refine ⟨t,_,rfl,.inr (bD.of au),rfl,rfl,_,rfl,?_⟩
    rw [Gy,vy]
    have rd3:=rd2.same s2
    have D2:=D1.mono s2
    have b2:bW p H (upd H1 t (.tup [.str "not",.str "and",.str "or"])):=b01.trans s2.but
    generalize upd H1 t (.tup [.str "not",.str "and",.str "or"])=H2 at s2 rd3 D2 b2 ⊢
    refine dC (fun ho=>?_) (fun _=>hN _ _ ⟨⟨_,rfl⟩,D2,b2,rd3⟩)
    have r1:1≤r.length:=by simp only [List.length_cons,decide_eq_true_eq] at hlen;lia
    refine ⟨_,rfl,p,dc,_,rfl,D2,by decide,by decide,fun q H3 q0 q1 D3 b3=>⟨rfl,_,rfl,dC (fun _=>?_) (fun _=>hN _ _ ⟨⟨_,rfl⟩,D3,b2.trans b3,D2.rep b3 rd3⟩)⟩⟩
    have rd4:=D2.rep b3 rd3
    have b4:=b2.trans b3
    obtain ⟨zs4,sq4,rz4⟩:=sqOf rd4
    have hz4:=rz4.length
    refine ⟨_,rfl,_,rfl,a,_,rfl,.inr sq4,_,_,rfl,rfl,p,dc,_,rfl,D3,?_,?_,fun j H5 j0 j1 D5 b5=>⟨_,_,rfl,rfl,?_⟩⟩
    ·simp only [List.length_cons];lia
    ·simp only [List.length_cons];lia
    obtain ⟨i,rfl⟩:=Int.eq_ofNat_of_zero_le j0
    have hi:i<r.length:=by simp only [List.length_cons] at j1;lia
    have rd5:=D3.rep b5 rd4
    have b5':=b4.trans b5
    have ai:(1+(i:Int))=((i+1:Nat):Int):=by lia
    have ai2:(1+(i:Int)+1)=((i+2:Nat):Int):=by lia
    refine ⟨_,rfl,_,rfl,_,rfl,mY rd5 fun v1 H6 s6 rv1=>?_⟩
    rw [xq ai (by simp;lia)] at rv1
    have rd6:=rd5.same s6
    have D6:=D5.mono s6
    obtain ⟨zs6,sq6,rz6⟩:=sqOf rd6
    have hz6:=rz6.length
    have hi6:i<zs6.length:=by lia
    obtain ⟨e,he,ry⟩:=rz6.get' (List.getElem?_eq_getElem hi6)
    have me:=List.mem_of_getElem? he
    refine ⟨_,rfl,_,rfl,_,rfl,a,_,_,zs6[i],rfl,rfl,sq6,(by rw [ai];exact aF (by rw [List.getElem?_cons_succ];exact List.getElem?_eq_getElem hi6)),n,rfl,p,dc,_,e,kw,rfl,D6,ry,bds e me,k2,k3,by lia,fun y2 e2 H7 ry2 bd2 D7 b7=>⟨(by ext),fun t7 ht7=>?_⟩⟩
    have s8:aC H7 (upd H7 t7 (.tup [y2])):=aC.new ht7
    have b8:bW p H (upd H7 t7 (.tup [y2])):=((b5'.trans s6.but).trans b7).trans s8.but
    refine nj ((D6.rep b7 rv1).same s8) (.tup (bD.of au) (.cons (ry2.same s8) .nil)) (by simp;lia) fun v9 H9 s9 rv9=>?_
    have rd9:=((D6.rep b7 rd6).same s8).same s9
    refine ⟨_,rfl,_,rfl,_,_,rfl,rfl,_,rfl,?_⟩
    dsimp only [mZ]
    refine mY rd9 fun v10 H10 s10 rv10=>?_
    rw [wj ai2 (by simp;lia)] at rv10
    refine nj (rv9.same s10) rv10 (by simp;lia) fun v11 H11 s11 rv11=>?_
    have ee:((PyData.str f::r).take (i+1)++[e2]++(PyData.str f::r).drop (i+2))=.str f::(r.take i++[e2]++r.drop (i+1)):=by
     rw [List.take_succ_cons,List.drop_succ_cons];rfl
    rw [ee] at rv11
    refine k _ _ H11 rv11 (Bw.node af lf (by simp;lia) fun d m=>?_) (((D7.mono s8).mono s9).mono (s10.trans s11)) (((b8.trans s9.but).trans s10.but).trans s11.but)
    simp only [List.mem_append,List.mem_singleton] at m
    rcases m with (m|m)|m
    ·exact (bds d (List.mem_of_mem_take m)).mono (by lia) (by lia)
    ·subst m;exact bd2
    ·exact (bds d (List.mem_of_mem_drop m)).mono (by lia) (by lia)
   rintro σ' H2 ⟨⟨u,rfl⟩,D2,b2,rd3⟩
   refine ⟨_,rfl,rfl,_,rfl,dC (fun _=>?_) (fun _=>?_)⟩
   ·refine ⟨_,rfl,1,rfl,_,rfl,mY rd3 fun v1 H3 s3 rv=>?_⟩
    have rv:Rep K H3 (.ref v1) (.tuple (cutD (.str f::r) none (some (-1)))):=rv
    rw [xr] at rv
    cases r with
    |nil=>exact k _ _ H3 rv Bw.nil (D2.mono s3) (b2.trans s3.but)
    | cons d r=>
      rw [List.length_cons,List.take_succ_cons] at rv
      exact k _ _ H3 rv (Bw.node af lf (by simp at lr ⊢;lia) fun e m=>(bds e (List.mem_of_mem_take m)).mono (by lia) (by lia)) (D2.mono s3) (b2.trans s3.but)
   refine ⟨_,rfl,rfl,_,rfl,dC (fun _=>?_) (fun _=>?_)⟩
   ·refine ⟨_,rfl,_,rfl,(by ext),fun t ht=>⟨(by ext),fun q hq=>?_⟩⟩
    have s4:aC H2 (upd (upd H2 t (.tup [.str "all"])) q (.lst [.ref t,.int 3,.str "ab"])):=(aC.new ht).trans (aC.new hq)
    have rt4:Rep K (upd (upd H2 t (.tup [.str "all"])) q (.lst [.ref t,.int 3,.str "ab"])) (.ref t) (.tuple [.str "all"]):=.tup (bD.of (aC.new hq _ _ au)) (.cons (.str _) .nil)
    refine ⟨p,dc,q,_,rfl,D2.mono s4,bF.of au,by simp,by simp,fun y H5 hy D5 b5=>⟨(by ext),fun t6 ht6=>?_⟩⟩
    obtain ⟨e,re,be⟩:∃ e,Rep K H5 y e/\Bw (kw+1) (n+1) e:=by
     simp only [List.mem_cons,List.not_mem_nil,or_false] at hy
     rcases hy with rfl|rfl|rfl
     ·exact ⟨_,(D2.mono s4).rep b5 rt4,lX⟩
     ·exact ⟨_,.int _,Bw.int (by lia) (by lia)⟩
     ·exact ⟨_,.str _,Bw.str (by unfold ie;decide +kernel) (by ext)⟩
    have s6:aC H5 (upd H5 t6 (.tup [y])):=aC.new ht6
    refine nj (((D2.mono s4).rep b5 (rd3.same s4)).same s6) (.tup (bD.of au) (.cons (re.same s6) .nil)) (by simp;lia) fun v H7 s7 rv=>?_
    refine k _ _ H7 rv (Bw.node (r:=r++[e]) af lf (by simp;lia) fun d m=>?_) ((D5.mono s6).mono s7) ((((b2.trans s4.but).trans b5).trans s6.but).trans s7.but)
    rcases List.mem_append.mp m with m|m
    ·exact (bds d m).mono (by lia) (by lia)
    ·simp at m;subst m;exact be
   refine ⟨_,rfl,rfl,_,rfl,dC (fun _=>?_) (fun _=>?_)⟩
   ·refine ⟨_,rfl,(by ext),fun q hq=>?_⟩
    have s4:aC H2 (upd H2 q (.lst [.str "",.str "All",.str "more",.str "xor",.str "less"])):=aC.new hq
    refine ⟨p,dc,q,_,rfl,D2.mono s4,bF.of au,by simp,by simp,fun y H5 hy D5 b5=>⟨(by ext),fun t6 ht6=>?_⟩⟩
    obtain ⟨z,rfl,az,lz⟩:∃ z:Str,y=.str z/\ie z/\z.length≤40:=by
     simp only [List.mem_cons,List.not_mem_nil,or_false] at hy
     rcases hy with rfl|rfl|rfl|rfl|rfl
     all_goals exact ⟨_,rfl,by unfold ie;decide +kernel,by ext⟩
    have s6:aC H5 (upd H5 t6 (.tup [.str z])):=aC.new ht6
    have rd6:=((D2.mono s4).rep b5 (rd3.same s4)).same s6
    have rt6:Rep K (upd H5 t6 (.tup [.str z])) (.ref t6) (.tuple [.str z]):=.tup (bD.of au) (.cons (.str _) .nil)
    refine ⟨_,rfl,1,rfl,?_⟩
    dsimp only [mZ]
    refine mY rd6 fun v7 H7 s7 rv7=>?_
    rw [xN] at rv7
    refine nj (rt6.same s7) rv7 (by simp;lia) fun v H8 s8 rv=>?_
    exact k _ _ H8 rv (Bw.node (r:=r) az lz (by lia) fun d m=>(bds d m).mono (by lia) (by lia)) (((D5.mono s6).mono s7).mono s8) (((((b2.trans s4.but).trans b5).trans s6.but).trans s7.but).trans s8.but)
   refine ⟨_,rfl,rfl,_,rfl,dC (fun _=>?_) (fun _=>?_)⟩
   ·refine ⟨_,rfl,_,rfl,p,dc,rfl,D2,fun z H3 nz D3 b3=>⟨p,dc,z,rfl,D3,by have:=nz.hi;lia,lU nz,fun o H4 ao lo D4 b4=>⟨(by ext),fun t ht=>?_⟩⟩⟩
    have:=nz.hi
    refine k _ (.tuple [.str "less",.str o,.int 4]) _ (.tup (bD.of au) (.cons (.str _) (.cons (.str _) (.cons (.int _) .nil)))) (Bw.node (by unfold ie;decide +kernel) (by ext) (by simp <;> lia) fun d m=>?_) (D4.new ht) (((b2.trans b3).trans b4).trans (bW.new ht))
    simp at m
    rcases m with rfl|rfl
    ·exact Bw.str ao (by lia)
    ·exact Bw.int (by lia) (by lia)
   refine ⟨_,rfl,rfl,_,rfl,dC (fun _=>?_) (fun _=>?_)⟩
   ·refine ⟨_,rfl,p,dc,rfl,D2,fun z H3 nz D3 b3=>⟨_,rfl,1000000,rfl,_,rfl,p,dc,rfl,D3,fun g H4 g1 g2 D4 b4=>⟨(by ext),fun t ht=>⟨(by ext),fun q hq=>?_⟩⟩⟩⟩
    have s5:aC H4 (upd (upd H4 t (.tup [.str "all"])) q (.lst [.int 1000000,.int (-1000000),.int g,.ref t])):=(aC.new ht).trans (aC.new hq)
    have rt5:Rep K (upd (upd H4 t (.tup [.str "all"])) q (.lst [.int 1000000,.int (-1000000),.int g,.ref t])) (.ref t) (.tuple [.str "all"]):=.tup (bD.of (aC.new hq _ _ au)) (.cons (.str _) .nil)
    refine ⟨p,dc,q,_,rfl,D4.mono s5,bF.of au,by simp,by simp,fun y H6 hy D6 b6=>⟨(by ext),fun t7 ht7=>?_⟩⟩
    obtain ⟨e,re,be⟩:∃ e,Rep K H6 y e/\Bw (kw+1) (n+1) e:=by
     simp only [List.mem_cons,List.not_mem_nil,or_false] at hy
     have:qX=Bf+2:=rfl
     rcases hy with rfl|rfl|rfl|rfl
     ·exact ⟨_,.int _,Bw.int (by lia) (by lia)⟩
     ·exact ⟨_,.int _,Bw.int (by lia) (by lia)⟩
     ·exact ⟨_,.int _,Bw.int (by lia) (by lia)⟩
     ·exact ⟨_,(D4.mono s5).rep b6 rt5,lX⟩
    have s7:aC H6 (upd H6 t7 (.tup [.str "same",.str z,y])):=aC.new ht7
    refine k _ (.tuple [.str "same",.str z,e]) _ (.tup (bD.of au) (.cons (.str _) (.cons (.str _) (.cons (re.same s7) .nil)))) (Bw.node (by unfold ie;decide +kernel) (by ext) (by simp <;> lia) fun d m=>?_) (D6.mono s7) (((((b2.trans b3).trans b4).trans s5.but).trans b6).trans s7.but)
    simp at m
    rcases m with rfl|rfl
    ·exact Bw.str (lU nz) (by have:=nz.hi;lia)
    ·exact be
   refine ⟨_,rfl,rfl,_,rfl,dC (fun _=>?_) (fun _=>?_)⟩
   ·refine ⟨_,rfl,_,rfl,p,dc,rfl,D2,fun z H3 nz D3 b3=>⟨p,dc,z,rfl,D3,by have:=nz.hi;lia,lU nz,fun o H4 ao lo D4 b4=>⟨(by ext),fun t ht=>?_⟩⟩⟩
    have:=nz.hi
    refine k _ (.tuple [.str "is",.str o]) _ (.tup (bD.of au) (.cons (.str _) (.cons (.str _) .nil))) (Bw.node (by unfold ie;decide +kernel) (by ext) (by simp <;> lia) fun d m=>?_) (D4.new ht) (((b2.trans b3).trans b4).trans (bW.new ht))
    simp at m
    subst m
    exact Bw.str ao (by lia)
   refine ⟨_,rfl,rfl,_,rfl,dC (fun _=>?_) (fun _=>?_)⟩
   ·refine ⟨_,rfl,_,rfl,(by ext),fun t ht=>?_⟩
    have s4:aC H2 (upd H2 t (.tup [.str "and",.ref a,.ref a])):=aC.new ht
    refine k _ (.tuple [.str "and",.tuple (.str f::r),.tuple (.str f::r)]) _ (.tup (bD.of au) (.cons (.str _) (.cons (rd3.same s4) (.cons (rd3.same s4) .nil)))) (Bw.node (by unfold ie;decide +kernel) (by ext) (by simp <;> lia) fun d m=>?_) (D2.mono s4) (b2.trans s4.but)
    simp at m
    subst m
    exact bd0
   refine ⟨_,rfl,rfl,_,rfl,dC (fun _=>?_) (fun _=>?_)⟩
   ·refine ⟨_,rfl,(by ext),fun t ht=>?_⟩
    have s4:aC H2 (upd H2 t (.tup [.str "not",.ref a])):=aC.new ht
    refine k _ (.tuple [.str "not",.tuple (.str f::r)]) _ (.tup (bD.of au) (.cons (.str _) (.cons (rd3.same s4) .nil))) (Bw.node (by unfold ie;decide +kernel) (by ext) (by simp <;> lia) fun d m=>?_) (D2.mono s4) (b2.trans s4.but)
    simp at m
    subst m
    exact bd0
   refine ⟨_,rfl,rfl,_,rfl,dC (fun _=>?_) (fun _=>?_)⟩
   ·refine ⟨_,rfl,_,rfl,(by ext),fun t ht=>⟨(by ext),fun q hq=>?_⟩⟩
    have s4:aC H2 (upd (upd H2 t (.tup [.str "all"])) q (.lst [.str "all",.int 1,.ref t])):=(aC.new ht).trans (aC.new hq)
    have rt4:Rep K (upd (upd H2 t (.tup [.str "all"])) q (.lst [.str "all",.int 1,.ref t])) (.ref t) (.tuple [.str "all"]):=.tup (bD.of (aC.new hq _ _ au)) (.cons (.str _) .nil)
    refine ⟨p,dc,q,_,rfl,D2.mono s4,bF.of au,by simp,by simp,fun y H5 hy D5 b5=>⟨(by ext),fun t6 ht6=>?_⟩⟩
    obtain ⟨e,re,be⟩:∃ e,Rep K H5 y e/\Bw (kw+1) (n+1) e:=by
     simp only [List.mem_cons,List.not_mem_nil,or_false] at hy
     rcases hy with rfl|rfl|rfl
     ·exact ⟨_,.str _,Bw.str (by unfold ie;decide +kernel) (by ext)⟩
     ·exact ⟨_,.int _,Bw.int (by lia) (by lia)⟩
     ·exact ⟨_,(D2.mono s4).rep b5 rt4,lX⟩
    have s6:aC H5 (upd H5 t6 (.tup [.str "or",.ref a,y])):=aC.new ht6
    refine k _ (.tuple [.str "or",.tuple (.str f::r),e]) _ (.tup (bD.of au) (.cons (.str _) (.cons (((D2.mono s4).rep b5 (rd3.same s4)).same s6) (.cons (re.same s6) .nil)))) (Bw.node (by unfold ie;decide +kernel) (by ext) (by simp <;> lia) fun d m=>?_) (D5.mono s6) (((b2.trans s4.but).trans b5).trans s6.but)
    simp at m
    rcases m with rfl|rfl
    ·exact bd0
    ·exact be
   exact ⟨_,rfl,k _ _ H2 rd3 (bd0.mono (Nat.le_refl _) (by lia)) D2 b2⟩
 induction n with
 |zero=>exact main 0 (fun n e=>by lia)
 |succ n ih=>exact main (n+1) (fun n' e=>by cases e;exact ih)
theorem Bw.noL (h:Bw k n e):sJ e:=by
 induction h with
 |str _ _=>exact .str
 |int _ _=>exact .int
 |nil=>exact .tup fun _ h=>by cases h
 | node _ _ _ _ ih=>
   refine .tup fun d h=>?_
   rcases List.mem_cons.mp h with rfl|h
   ·exact .str
   ·exact ih d h
theorem lG (f:∀ a xs,bD K H a xs->bD K H' a xs) (n:sJ r.1) (h:Rep K H v (qM r)):Rep K H' v (qM r):=by
 obtain ⟨a,x0,rfl,sq,r1⟩:=ur h
 exact .tup (f _ _ sq) (.cons (n.rep f r1) (.cons (vz _) (.cons (vz _) .nil)))
theorem iK (f:∀ a xs,bD K H a xs->bD K H' a xs):∀ {U:List WZ} {us:List V},(∀ r∈U,sJ r.1)->bj K H us (U.map qM)->bj K H' us (U.map qM)
 |[],_,_,h=>by cases h;exact .nil
 | r::U,_,n,h=>by
   cases h with
   |cons a b=>exact .cons (lG f (n r (.head _)) a) (iK f (fun q m=>n q (.tail _ m)) b)
theorem bj.set (h:Rep K H x d):∀ {us:List V} {ds:List PyData} (i:Nat),bj K H us ds->bj K H (us.set i x) (ds.set i d)
 |_,_,_,.nil=>.nil
 |_,_,0,.cons _ t=>.cons h t
 |_,_,i+1,.cons a t=>.cons a (bj.set h i t)
theorem bj.erase:∀ {us:List V} {ds:List PyData} (i:Nat),bj K H us ds->bj K H (us.eraseIdx i) (ds.eraseIdx i)
 |_,_,_,.nil=>.nil
 |_,_,0,.cons _ t=>t
 |_,_,i+1,.cons a t=>.cons a (bj.erase i t)
theorem pW (f:WZ->PyData):∀ (U:List WZ) (i:Nat),(U.map f).eraseIdx i=(U.eraseIdx i).map f
 |[],_=>rfl
 |_::_,0=>rfl
 | r::U,i+1=>by
   rw [List.map_cons,List.eraseIdx_cons_succ,List.eraseIdx_cons_succ,List.map_cons,pW f U i]
theorem uy {U:List WZ} (h:q∈U.set i r):q∈U∨q=r:=List.mem_or_eq_of_mem_set h
noncomputable def Gg (K:Frag) (kw n:Nat):Sp:=fun vs H Q _=>∃ (p dc pw lw:Addr) (st:JZ) (W:List WZ),vs=[.ref p,.ref pw]/\Dr H p dc/\oO K H pw lw st W/\(∀ r∈W,Bw kw n r.1)/\W.length≤40/\
 ∀ pw' lw' st' W' H',oO K H' pw' lw' st' W'->(∀ r∈W',Bw (kw+1) (n+1) r.1)->W'.length≤W.length+1->Dr H' p dc->bW p H H'->Q (.ref pw') H'
noncomputable abbrev Qy:List Str:=["_law_d","_law_way","_law_start","_law_rows","_law_at","_law_leaf_here","_law_yes","_law_no","_law_jump"]
theorem nH:aU Qy ["_law_d","_law_way"] (aD (top 79)):=by ext
theorem Dl (k2:2≤kw) (k3:kw≤3) (n1:1≤n) (n9:n≤8) (F:fc K "_law_bent_way" "_law_bent_way" (top 79) f fd) (T:Txt K mg) (DP:cj K mg "_law_pick" (top 51) ["_law_d","_law_many"] fP fdP) (DO:cj K mg "_law_of" (top 52) ["_law_d","_law_things"] fO fdO) (DF:cj K mg "_law_far" (top 53) ["_law_d"] fF fdF)
 (DB:cj K mg "_law_bent_test" (top 71) ["_law_d","_law_test_here"] fB fdB) (GB:aQ P w K mg base bC (n+4) fB fdB ["_law_d","_law_test_here"] (Ad K n)):aQ P w K mg base bC (n+5) f fd ["_law_d","_law_way"] (Gg K kw n):=by
 have GP:aQ P w K mg base bC 1 fP fdP ["_law_d","_law_many"] d_:=dw DP.F T
 have GO:aQ P w K mg base bC 2 fO fdO ["_law_d","_law_things"] (oU K):=lJ DO.F T DP
 have GF:aQ P w K mg base bC 2 fF fdF ["_law_d"] xT:=zE DF.F T DP
 refine F.ok nH (by ext) fun cdv A outer s H vs Q E hr h=>?_
 obtain ⟨p,dc,pw,lw,st,W,rfl,D,⟨hp,ws,hl,rs⟩,bw,wl,k⟩:=h
 have hr1:bR 1 _:=hr.mono (show 1≤n+4 by lia)
 have hr2:bR 2 _:=hr.mono (show 2≤n+4 by lia)
 refine ⟨_,(ak (cM (pv 1) (cD rfl (aP (aK (i:=2) nH.nd rfl (.inl rfl)) (aP (aK (i:=3) nH.nd rfl (.inl rfl)) bY))))
  (ak (bc (i:=3) nH.nd rfl (.inl rfl) (g8 iW (by rfl) T.list lg (aa (pv 3) aj)))
  (ak (bc (i:=1) nH.nd rfl (.inl rfl) (bO DP GP hr1 (aa (pv 0) (aa aA aj))))
  (ak (a_ (PW.pt (gJ (aH (lO hr.units) (pv 3) (bM aj) (aN _)) (fJ (aH bz (pv 1) aA (aN _))))) (ak (cJ (h_ PySem.F.plainAttrs_list PySem.F.slot_list_append PySem.F.type_list_append eZ (pv 3) (aa (bu (aa (bO DO GO hr2 (aa (pv 0) (aa (bM (aa (bu (aa aM aj)) (aa (bu (aa aM (aa aM aj))) (aa (bu (aa aM (aa aM (aa aA aj)))) aj)))) aj))) (aa cY (aa (bO DO GO hr2 (aa (pv 0) (aa (bM (aa cY (aa cY aj))) aj))) aj)))) aj)))
   (aB (aJ (bu (aa (bO DO GO hr2 (aa (pv 0) (aa (bM (aa (pv 2) (aa aA (aa cY aj)))) aj))) (aa (pv 3) aj)))))) aL)
  (ak (bc (i:=4) nH.nd rfl (.inl rfl) (bO DP GP hr1 (aa (pv 0) (aa (aG aO (by rfl) T.len bH (aa (pv 3) aj)) aj))))
  (ak (cM (aZ cF (pv 3) (pv 4) (fun _ _=>rfl)) (cD rfl (aP (aK (i:=5) nH.nd rfl (.inl rfl)) (aP (aK (i:=6) nH.nd rfl (.inl rfl)) (aP (aK (i:=7) nH.nd rfl (.inl rfl)) bY)))))
  (ak (bc (i:=8) nH.nd rfl (.inl rfl) (bO DO GO hr2 (aa (pv 0) (aa (bM (aa cY (aa cY (aa (pv 4) (aa (bh cH (pv 4) aA) (aa (aG aO (by rfl) T.len bH (aa (pv 3) aj)) (aa (bh dM (aG aO (by rfl) T.len bH (aa (pv 3) aj)) aA) (aa (jL iu aA) (aa (bO DF GF hr2 (aa (pv 0) aj)) aj))))))))) aj))))
  (ak (a_ (aH bz (pv 1) aA (aN _)) (aB (cM (bu (aa (pv 5) (aa (pv 8) (aa (pv 7) aj)))) (oK (pv 3) (pv 4) set_list))) aL)
  (ak (a_ (aH bz (pv 1) aA (aN _)) (aB (cM (bu (aa (pv 5) (aa (pv 6) (aa (pv 8) aj)))) (oK (pv 3) (pv 4) set_list))) aL)
  (ak (a_ (aH bz (pv 1) aA (aN _)) (aB (cM (bu (aa (bO DB GB hr (aa (pv 0) (aa (pv 5) aj))) (aa (pv 6) (aa (pv 7) aj)))) (oK (pv 3) (pv 4) set_list))) aL)
  (ak (a_ (aH bz (pv 1) aA (aN _)) (aB (bc (i:=2) nH.nd rfl (.inl rfl) (bO DO GO hr2 (aa (pv 0) (aa (bM (aa cY (aa cY (aa aA (aa (jL iu aA) (aa aA aj)))))) aj))))) aL)
  (ak (a_ (aH bz (pv 1) aA (aN _)) (aB (cJ (h_ PySem.F.plainAttrs_list PySem.F.slot_list_pop PySem.F.type_list_pop zU (pv 3) (aa (pv 4) aj)))) aL)
  (ak (a_ (aH bz (pv 1) aA (aN _)) (aB (cJ (h_ PySem.F.plainAttrs_list PySem.F.slot_list_insert PySem.F.type_list_insert xO (pv 3) (aa (pv 4) (aa (aZ cF (pv 3) (pv 4) (fun _ _=>rfl)) aj))))) aL)
  (ak (a_ (aH bz (pv 1) aA (aN _)) (aB (cM (bu (aa (pv 5) (aa (pv 7) (aa (pv 6) aj)))) (oK (pv 3) (pv 4) set_list))) aL)
  (ak (a_ (aH bz (pv 1) aA (aN _)) (aB (cM (bu (aa (pv 5) (aa (pv 6) (aa (pv 6) aj)))) (oK (pv 3) (pv 4) set_list))) aL)
  (aB (aJ (bu (aa (pv 2) (aa (pv 3) aj)))))))))))))))))))),?_⟩
 have xl:=rs.length
 rw [List.length_map] at xl
 have big:1000≤sizeLine:=by decide
 refine ⟨_,rfl,pw,_,rfl,bD.of hp,rfl,_,_,rfl,_,_,rfl,rfl,?_⟩
 refine ⟨_,rfl,lw,ws,rfl,.inl (bF.of hl),fun lr hlr=>?_⟩
 have s0:aC H (upd H lr (.lst ws)):=aC.new hlr
 have e0:upd H lr (.lst ws) lr=some (.lst ws):=au
 have D0:Dr (upd H lr (.lst ws)) p dc:=D.mono s0
 have nlp:lr≠p:=(D.neN hlr).symm
 have nlc:lr≠dc:=by
  obtain ⟨xs,e⟩:=D.cell
  exact (aR e hlr).symm
 generalize upd H lr (.lst ws)=H0 at s0 e0 D0 ⊢
 dsimp only [bG,List.set,L2.start]
 refine ⟨_,rfl,p,dc,_,rfl,D0,by decide,by decide,fun w1 H1 w0 w9 D1 b1=>?_⟩
 have b1:bW p H H1:=s0.but.trans b1
 have e1:H1 lr=some (.lst ws):=by
  rename_i b1'
  exact b1' _ _ e0 nlp
 have rs1:bj K H1 ws (W.map qM):=D.reps b1 rs
 have put:∀ {H':Hp} {us us':List V},H' lr=some (.lst us)->Dr H' p dc->bW p H H'->Dr (upd H' lr (.lst us')) p dc/\bW p H (upd H' lr (.lst us'))/\∀ a xs,bD K H' a xs->bD K (upd H' lr (.lst us')) a xs:=fun {H' us us'} e D' b'=>
  ⟨D'.put nlp nlc,fun b o z hb=>by rw [aX (aR z hlr)];exact b' b o z hb,bW.upd.sqt e⟩
 have wno:∀ r∈W,sJ r.1:=fun r m=>(bw r m).noL
 have dp:=vH (W:=W) fun r m=>⟨(bw r m).td (by have:=k3;lia),Nat.le_trans (bw r m).dp (by lia)⟩
 have up1:∀ r∈W,Bw (kw+1) (n+1) r.1:=fun r m=>(bw r m).mono (by lia) (by lia)
 have lst3:∀ {H':Hp} {U:List WZ} {us:List V},H' lr=some (.lst us)->bj K H' us (U.map qM)->(∀ r∈U,Bw (kw+1) (n+1) r.1)->U.length≤W.length+1->Dr H' p dc->bW p H H'->∀ {st':JZ} {x:Addr},H' x=none->Q (.ref x) (upd H' x (.tup [gH st',.ref lr])):=fun {H' U us} e r b l D' b' {st' x} hx=>
  k x lr st' U _ ⟨au,us,aC.new hx _ _ e,r.same (aC.new hx)⟩ b l (D'.new hx) (b'.trans (bW.new hx))
 have atr:∀ {H':Hp} {v:V} {d:PyData},Dr H' p dc->∀ {H'':Hp},bW p H' H''->Rep K H' v d->Rep K H'' v d:=fun {H' v d} D' {H''} b' r=>D'.rep b' r
 refine ⟨_,rfl,(by ext),fun q hq=>?_⟩
 have s2:aC H1 (upd H1 q (.lst [])):=aC.new hq
 have eq2:upd H1 q (.lst []) q=some (.lst []):=au
 generalize upd H1 q (.lst [])=H2 at s2 eq2 ⊢
 have e2:=s2 _ _ e1
 have rs2:=rs1.same s2
 have D2:=D1.mono s2
 have b2:bW p H H2:=b1.trans s2.but
 refine ⟨_,.list [],.lst (bF.of e2) rs2,.lst (bF.of eq2) .nil,(by show bB _+1≤60;lia),_,rfl,?_⟩
 by_cases hW:W=[]
 case' pos=>refine b_ (by rw [hW];rfl) (b_ rfl ?_)
 case' neg=>refine bJ (by cases W with|nil=>exact absurd rfl hW|cons r t=>rfl) ⟨_,rfl,rfl,_,rfl,dC (fun h0=>?_) (fun h0=>?_)⟩
 any_goals (
  refine ⟨_,rfl,.inl ⟨rfl,_,bF.of e2⟩,_,rfl,(by ext),fun t1 ht1=>⟨(by ext),fun t2 ht2=>⟨(by ext),fun t3 ht3=>⟨(by ext),fun q3 hq3=>?_⟩⟩⟩⟩
  have u1:=aC.new (o:=.tup [.str "all"]) ht1
  have u2:=aC.new (o:=.tup [.str "is",.str "a"]) ht2
  have u3:=aC.new (o:=.tup [.str "less",.str "b",.int 4]) ht3
  have u4:=aC.new (o:=.lst [.ref t1,.ref t2,.ref t3]) hq3
  have U4:=u1.trans (u2.trans (u3.trans u4))
  refine ⟨p,dc,q3,_,rfl,D2.mono U4,bF.of au,by simp,by simp,fun x H3 hx D3 b3=>?_⟩
  obtain ⟨d,rx,bx⟩:∃ d,Rep K H3 x d/\Bw (kw+1) (n+1) d:=by
   simp only [List.mem_cons,List.not_mem_nil,or_false] at hx
   rcases hx with rfl|rfl|rfl
   ·exact ⟨_,atr (D2.mono U4) b3 (.tup (bD.of ((u2.trans (u3.trans u4)) _ _ au)) (.cons (.str _) .nil)),lX⟩
   ·exact ⟨_,atr (D2.mono U4) b3 (.tup (bD.of ((u3.trans u4) _ _ au)) (.cons (.str _) (.cons (.str _) .nil))),.node (by unfold ie;decide +kernel) (by ext) (by show 1≤kw+1;lia) fun d m=>by
     cases List.mem_singleton.mp m
     exact .str (by unfold ie;decide +kernel) (by ext)⟩
   ·exact ⟨_,atr (D2.mono U4) b3 (.tup (bD.of (u4 _ _ au)) (.cons (.str _) (.cons (.str _) (.cons (.int _) .nil)))),.node (by unfold ie;decide +kernel) (by ext) (by show 2≤kw+1;lia) fun d m=>by
     simp only [List.mem_cons,List.not_mem_nil,or_false] at m
     rcases m with rfl|rfl
     ·exact .str (by unfold ie;decide +kernel) (by ext)
     ·exact .int (by decide) (by decide)⟩
  have B3:bW p H2 H3:=U4.but.trans b3
  refine ⟨_,rfl,(by ext),fun q4 hq4=>⟨p,dc,q4,_,rfl,D3.new hq4,bF.of au,by simp,by simp,fun y H4 hy D4 b4=>⟨(by ext),fun t ht=>?_⟩⟩⟩
  obtain ⟨b',rfl⟩:∃ b',y=.bl b':=by
   simp only [List.mem_cons,List.not_mem_nil,or_false] at hy
   rcases hy with rfl|rfl
   ·exact ⟨_,rfl⟩
   ·exact ⟨_,rfl⟩
  have B4:bW p H2 H4:=B3.trans ((bW.new hq4).trans b4)
  have s5:=aC.new (o:=.tup [x,.bl true,.bl b']) ht
  have e5:=s5 _ _ (B4 _ _ e2 nlp)
  have rs5:=(D2.reps B4 rs2).same s5
  have rx5:=((D3.new hq4).rep b4 (rx.same (aC.new hq4))).same s5
  refine ⟨lr,ws,_,rfl,rfl,e5,gf (by lia),?_⟩
  obtain ⟨D6,b6,f6⟩:=put (us':=ws++[.ref t]) e5 (D4.mono s5) ((b2.trans B4).trans s5.but)
  have r6:bj K (upd (upd H4 t (.tup [x,.bl true,.bl b'])) lr (.lst (ws++[.ref t]))) (ws++[.ref t]) ((W++[((d,.inl true,.inl b'):WZ)]).map qM):=by
   rw [List.map_append]
   refine gB (iK f6 wno rs5) (.cons (lG f6 (r:=(d,.inl true,.inl b')) bx.noL (.tup (bD.of au) (.cons rx5 (.cons (.bl _) (.cons (.bl _) .nil))))) .nil)
  have e6:upd (upd H4 t (.tup [x,.bl true,.bl b'])) lr (.lst (ws++[.ref t])) lr=some (.lst (ws++[.ref t])):=au
  generalize upd (upd H4 t (.tup [x,.bl true,.bl b'])) lr (.lst (ws++[.ref t]))=H6 at D6 b6 f6 r6 e6 ⊢
  refine ⟨_,rfl,_,rfl,(by ext),fun q7 hq7=>⟨p,dc,q7,_,rfl,D6.new hq7,bF.of au,by simp,by simp,fun z H7 hz D7 b7=>?_⟩⟩
  obtain ⟨st',rfl⟩:∃ st':JZ,z=gH st':=by
   simp only [List.mem_cons,List.not_mem_nil,or_false] at hz
   rcases hz with rfl|rfl|rfl
   ·exact ⟨st,rfl⟩
   ·exact ⟨.inr 0,rfl⟩
   ·exact ⟨.inl true,rfl⟩
  have B7:bW p H6 H7:=(bW.new hq7).trans b7
  refine ⟨_,rfl,(by ext),fun pw' hpw'=>lst3 (B7 _ _ e6 nlp) (D6.reps B7 r6) (fun r m=>?_) (by rw [List.length_append,List.length_singleton];lia) D7 (b6.trans B7) hpw'⟩
  rcases List.mem_append.mp m with m|m
  ·exact up1 r m
  ·cases List.mem_singleton.mp m
   exact bx)
 have pos:0<W.length:=List.length_pos_iff.mpr hW
 refine ⟨_,rfl,_,rfl,lr,ws,rfl,.inl (bF.of e2),p,dc,_,rfl,D2,by lia,by lia,fun ai H3 a0 a1 D3 b3=>?_⟩
 obtain ⟨at_,rfl⟩:=Int.eq_ofNat_of_zero_le a0
 have al:at_<ws.length:=by lia
 have e3:=b3 _ _ e2 nlp
 have rs3:=D2.reps b3 rs2
 have B3:bW p H H3:=b2.trans b3
 obtain ⟨d,hd,rx⟩:=rs3.get' (List.getElem?_eq_getElem al)
 rw [List.getElem?_map] at hd
 obtain ⟨r,hir,rfl⟩:=Option.map_eq_some_iff.mp hd
 have mr:=List.mem_of_getElem? hir
 obtain ⟨c,x0,ex,sq,r1⟩:=ur rx
 have hx:=List.getElem?_eq_getElem al
 have hxx:=hx
 rw [ex] at hx
 dsimp only [bG,List.set]
 refine ⟨_,rfl,_,rfl,lr,_,_,_,rfl,rfl,bF.of e3,aF hx,c,_,rfl,sq,rfl,_,_,rfl,_,_,rfl,_,_,rfl,rfl,?_⟩
 dsimp only [bG,List.set]
 refine ⟨_,rfl,_,rfl,_,rfl,_,_,rfl,rfl,_,rfl,lr,ws,rfl,.inl (bF.of e3),_,rfl,lr,ws,rfl,.inl (bF.of e3),_,_,rfl,rfl,1,rfl,_,rfl,p,dc,rfl,D3,fun fz H4 _ _ D4 b4=>⟨(by ext),fun q5 hq5=>⟨p,dc,q5,_,rfl,D4.new hq5,bF.of au,by simp,by simp,fun y H5 hy D5 b5=>?_⟩⟩⟩
 obtain ⟨jz,rfl⟩:∃ jz:JZ,y=gH jz:=by
  simp only [List.mem_cons,List.not_mem_nil,or_false] at hy
  rcases hy with rfl|rfl|rfl|rfl|rfl|rfl|rfl|rfl
  ·exact ⟨.inl _,rfl⟩
  ·exact ⟨.inl _,rfl⟩
  all_goals exact ⟨.inr _,rfl⟩
 have B35:bW p H3 H5:=b4.trans ((bW.new hq5).trans b5)
 have B5:bW p H H5:=B3.trans B35
 have e5:=B35 _ _ e3 nlp
 have rs5:=D3.reps B35 rs3
 have rx5:=D3.rep B35 r1
 clear hy
 dsimp only [bG,List.set]
 let M:Nat->St->Hp->Prop:=fun j σ' H'=>∃ (st':JZ) (us:List V) (U:List WZ),σ'=[some (.ref p),some (.int w1),some (gH st'),some (.ref lr),some (.int (at_:Nat)),some x0,some (gH r.2.1),some (gH r.2.2),some (gH jz)]/\Dr H' p dc/\bW p H H'/\H' lr=some (.lst us)/\bj K H' us (U.map qM)/\Rep K H' x0 r.1/\(∀ q∈U,Bw (kw+1) (n+1) q.1)/\U.length≤W.length+1/\((j:Int)≤w1->U=W)
 have M1:M 1 [some (.ref p),some (.int w1),some (gH st),some (.ref lr),some (.int (at_:Nat)),some x0,some (gH r.2.1),some (gH r.2.2),some (gH jz)] H5:=⟨st,ws,W,rfl,D5,B5,e5,rs5,rx5,up1,by lia,fun _=>rfl⟩
 have stay:∀ {j:Nat} {σ':St} {H':Hp},¬ decide (V.int w1=V.int (j:Nat))=true->M j σ' H'->M (j+1) σ' H':=fun {j σ' H'} hj ⟨st',us,U,a1,a2,a3,a4,a5,a6,a7,a8,a9⟩=>⟨st',us,U,a1,a2,a3,a4,a5,a6,a7,a8,fun z=>a9 (by lia)⟩
 have eqw:∀ {z:Int},decide (V.int w1=V.int z)=true->w1=z:=fun h=>by rw [ii] at h;simpa using h
 have kept:∀ {H':Hp} {us us':List V},H' lr=some (.lst us)->Rep K H' x0 r.1->Rep K (upd H' lr (.lst us')) x0 r.1:=fun e z=>(wno r mr).rep (bW.upd.sqt e) z
 have anew:∀ {j:Nat} {st':JZ} {us:List V} {H':Hp} {t:Addr} {x':V} {d':PyData} {a b:JZ},w1=(j:Nat)->Dr H' p dc->bW p H H'->H' lr=some (.lst us)->bj K H' us (W.map qM)->Rep K H' x0 r.1->H' t=some (.tup [x',gH a,gH b])->Rep K H' x' d'->Bw (kw+1) (n+1) d'->
  M (j+1) [some (.ref p),some (.int w1),some (gH st'),some (.ref lr),some (.int (at_:Nat)),some x0,some (gH r.2.1),some (gH r.2.2),some (gH jz)] (upd H' lr (.lst (us.set at_ (.ref t)))):=fun {j st' us H' t x' d' a b} hw D' b' e' r' z' ht' rx' bd'=>by
  obtain ⟨D6,b6,f6⟩:=put (us':=us.set at_ (.ref t)) e' D' b'
  refine ⟨st',_,W.set at_ (d',a,b),rfl,D6,b6,au,?_,kept e' z',fun q m=>?_,by rw [List.length_set];lia,fun z=>by lia⟩
  ·rw [List.map_set]
   exact bj.set (lG f6 (r:=(d',a,b)) bd'.noL (.tup (bD.of ht') (.cons rx' (.cons (vz _) (.cons (vz _) .nil))))) _ (iK f6 wno r')
  ·rcases uy m with m|rfl
   ·exact up1 q m
   ·exact bd'
 have ix:∀ {us:List V},us.length=W.length->Ao us.length ((at_:Nat):Int)=some at_:=fun e=>by
  unfold Ao
  rw [if_pos (by lia),if_pos (by lia)]
  simp
 have len:∀ {H':Hp} {us:List V},bj K H' us (W.map qM)->us.length=W.length:=fun h=>by rw [h.length,List.length_map]
 have br:=up1 r mr
 refine eU (M 2) ?n2 fun N hN=>⟨_,rfl,rfl,_,rfl,dC (fun h=>?s1) (fun h=>hN _ _ (stay h M1))⟩
 case s1=>
  refine ⟨_,rfl,_,rfl,_,rfl,(by ext),fun t ht=>?_⟩
  have s:=aC.new (o:=.tup [x0,gH jz,gH r.2.2]) ht
  exact ⟨_,rfl,_,rfl,lr,ws,_,at_,rfl,rfl,s _ _ e5,ix (len rs5),hN _ _ (anew (j:=1) (by have:=eqw h;lia) (D5.mono s) (B5.trans s.but) (s _ _ e5) (rs5.same s) (rx5.same s) au (rx5.same s) br)⟩
 rintro _ G2 ⟨st',us,U,rfl,d2,c2,f2,g2,x2,y2,l2,z2⟩
 refine eU (M 3) ?n3 fun N hN=>⟨_,rfl,rfl,_,rfl,dC (fun h=>?s2) (fun h=>hN _ _ (stay h ⟨st',us,U,rfl,d2,c2,f2,g2,x2,y2,l2,z2⟩))⟩
 case s2=>
  cases z2 (by have:=eqw h;lia)
  refine ⟨_,rfl,_,rfl,_,rfl,(by ext),fun t ht=>?_⟩
  have s:=aC.new (o:=.tup [x0,gH r.2.1,gH jz]) ht
  exact ⟨_,rfl,_,rfl,lr,us,_,at_,rfl,rfl,s _ _ f2,ix (len g2),hN _ _ (anew (j:=2) (by have:=eqw h;lia) (d2.mono s) (c2.trans s.but) (s _ _ f2) (g2.same s) (x2.same s) au (x2.same s) br)⟩
 clear d2 c2 f2 g2 x2 y2 l2 z2
 rintro _ G3 ⟨st',us,U,rfl,d2,c2,f2,g2,x2,y2,l2,z2⟩
 refine eU (M 4) ?n4 fun N hN=>⟨_,rfl,rfl,_,rfl,dC (fun h=>?s3) (fun h=>hN _ _ (stay h ⟨st',us,U,rfl,d2,c2,f2,g2,x2,y2,l2,z2⟩))⟩
 case s3=>
  cases z2 (by have:=eqw h;lia)
  refine ⟨_,rfl,_,rfl,p,dc,x0,r.1,kw,rfl,d2,x2,bw r mr,k2,k3,by lia,fun y e H6 ry be D6 b6=>⟨_,rfl,_,rfl,(by ext),fun t ht=>?_⟩⟩
  have s:=aC.new (o:=.tup [y,gH r.2.1,gH r.2.2]) ht
  have f6:=b6 _ _ f2 nlp
  have g6:=d2.reps b6 g2
  exact ⟨_,rfl,_,rfl,lr,us,_,at_,rfl,rfl,s _ _ f6,ix (len g2),hN _ _ (anew (j:=3) (by have:=eqw h;lia) (D6.mono s) ((c2.trans b6).trans s.but) (s _ _ f6) (g6.same s) ((d2.rep b6 x2).same s) au (ry.same s) be)⟩
 clear d2 c2 f2 g2 x2 y2 l2 z2
 rintro _ G4 ⟨st',us,U,rfl,d2,c2,f2,g2,x2,y2,l2,z2⟩
 refine eU (M 5) ?n5 fun N hN=>⟨_,rfl,rfl,_,rfl,dC (fun h=>?s4) (fun h=>hN _ _ (stay h ⟨st',us,U,rfl,d2,c2,f2,g2,x2,y2,l2,z2⟩))⟩
 case s4=>
  refine ⟨_,rfl,1,rfl,(by ext),fun q6 hq6=>⟨p,dc,q6,_,rfl,d2.new hq6,bF.of au,by simp,by simp,fun y H6 hy D6 b6=>?_⟩⟩
  obtain ⟨st2,rfl⟩:∃ st2:JZ,y=gH st2:=by
   simp only [List.mem_cons,List.not_mem_nil,or_false] at hy
   rcases hy with rfl|rfl|rfl|rfl|rfl
   ·exact ⟨.inl _,rfl⟩
   ·exact ⟨.inl _,rfl⟩
   all_goals exact ⟨.inr _,rfl⟩
  have B6:bW p G4 H6:=(bW.new hq6).trans b6
  exact hN _ _ ⟨st2,us,U,rfl,D6,c2.trans B6,B6 _ _ f2 nlp,d2.reps B6 g2,d2.rep B6 x2,y2,l2,fun z=>z2 (by lia)⟩
 clear d2 c2 f2 g2 x2 y2 l2 z2
 rintro _ G5 ⟨st',us,U,rfl,d2,c2,f2,g2,x2,y2,l2,z2⟩
 refine eU (M 6) ?n6 fun N hN=>⟨_,rfl,rfl,_,rfl,dC (fun h=>?s5) (fun h=>hN _ _ (stay h ⟨st',us,U,rfl,d2,c2,f2,g2,x2,y2,l2,z2⟩))⟩
 case s5=>
  cases z2 (by have:=eqw h;lia)
  have ul:=len g2
  obtain ⟨D6,b6,f6⟩:=put (us':=us.eraseIdx at_) f2 d2 c2
  refine ⟨_,rfl,.inl ⟨rfl,_,bF.of f2⟩,_,rfl,lr,us,_,at_,us[at_]'(by lia),rfl,rfl,f2,by lia,by lia,?_,List.getElem?_eq_getElem (by lia),hN _ _ ⟨st',_,W.eraseIdx at_,rfl,D6,b6,au,?_,kept f2 x2,fun q m=>up1 q (List.mem_of_mem_eraseIdx m),by rw [List.length_eraseIdx];split <;> lia,fun z=>by have:=eqw h;lia⟩⟩
  ·unfold seqIndex?
   rw [ul]
   simp
   lia
  ·rw [← pW]
   exact bj.erase _ (iK f6 wno g2)
 clear d2 c2 f2 g2 x2 y2 l2 z2
 rintro _ G6 ⟨st',us,U,rfl,d2,c2,f2,g2,x2,y2,l2,z2⟩
 refine eU (M 7) ?n7 fun N hN=>⟨_,rfl,rfl,_,rfl,dC (fun h=>?s6) (fun h=>hN _ _ (stay h ⟨st',us,U,rfl,d2,c2,f2,g2,x2,y2,l2,z2⟩))⟩
 case s6=>
  cases z2 (by have:=eqw h;lia)
  have ul:=len g2
  have ua:at_<us.length:=by lia
  obtain ⟨D6,b6,f6⟩:=put (us':=us.take at_++us[at_]::us.drop at_) f2 d2 c2
  refine ⟨_,rfl,.inl ⟨rfl,_,bF.of f2⟩,_,rfl,_,rfl,_,rfl,lr,_,_,us[at_],rfl,rfl,bF.of f2,aF (List.getElem?_eq_getElem ua),lr,us,at_,us[at_],rfl,rfl,f2,by lia,by lia,hN _ _ ⟨st',_,W.take at_++r::W.drop at_,rfl,D6,b6,au,?_,kept f2 x2,fun q m=>?_,by rw [List.length_append,List.length_cons,List.length_take,List.length_drop];omega +splitMinMax,fun z=>by have:=eqw h;lia⟩⟩
  ·obtain ⟨d,hd,rx⟩:=g2.get' (List.getElem?_eq_getElem ua)
   rw [List.getElem?_map,hir] at hd
   cases hd
   rw [List.map_append,List.map_cons,List.map_take,List.map_drop]
   have g6:=iK f6 wno g2
   exact gB (lY _ g6) (.cons (lG f6 (wno r mr) rx) (jw _ g6))
  ·rcases List.mem_append.mp m with m|m
   ·exact up1 q (List.mem_of_mem_take m)
   ·rcases List.mem_cons.mp m with rfl|m
    ·exact br
    ·exact up1 q (List.mem_of_mem_drop m)
 clear d2 c2 f2 g2 x2 y2 l2 z2
 rintro _ G7 ⟨st',us,U,rfl,d2,c2,f2,g2,x2,y2,l2,z2⟩
 refine eU (M 8) ?n8 fun N hN=>⟨_,rfl,rfl,_,rfl,dC (fun h=>?s7) (fun h=>hN _ _ (stay h ⟨st',us,U,rfl,d2,c2,f2,g2,x2,y2,l2,z2⟩))⟩
 case s7=>
  cases z2 (by have:=eqw h;lia)
  refine ⟨_,rfl,_,rfl,_,rfl,(by ext),fun t ht=>?_⟩
  have s:=aC.new (o:=.tup [x0,gH r.2.2,gH r.2.1]) ht
  exact ⟨_,rfl,_,rfl,lr,us,_,at_,rfl,rfl,s _ _ f2,ix (len g2),hN _ _ (anew (j:=7) (by have:=eqw h;lia) (d2.mono s) (c2.trans s.but) (s _ _ f2) (g2.same s) (x2.same s) au (x2.same s) br)⟩
 clear d2 c2 f2 g2 x2 y2 l2 z2
 rintro _ G8 ⟨st',us,U,rfl,d2,c2,f2,g2,x2,y2,l2,z2⟩
 refine eU (M 9) ?n9 fun N hN=>⟨_,rfl,rfl,_,rfl,dC (fun h=>?s8) (fun h=>hN _ _ (stay h ⟨st',us,U,rfl,d2,c2,f2,g2,x2,y2,l2,z2⟩))⟩
 case s8=>
  cases z2 (by have:=eqw h;lia)
  refine ⟨_,rfl,_,rfl,_,rfl,(by ext),fun t ht=>?_⟩
  have s:=aC.new (o:=.tup [x0,gH r.2.1,gH r.2.1]) ht
  exact ⟨_,rfl,_,rfl,lr,us,_,at_,rfl,rfl,s _ _ f2,ix (len g2),hN _ _ (anew (j:=8) (by have:=eqw h;lia) (d2.mono s) (c2.trans s.but) (s _ _ f2) (g2.same s) (x2.same s) au (x2.same s) br)⟩
 clear d2 c2 f2 g2 x2 y2 l2 z2
 rintro _ G9 ⟨st',us,U,rfl,d2,c2,f2,g2,x2,y2,l2,z2⟩
 exact ⟨_,rfl,_,rfl,(by ext),fun x hx=>lst3 f2 g2 y2 l2 d2 c2 hx⟩
theorem wA (lf:lu f r) (n:Nat):cu nm fs zs (n+1) f r=g_ nm fs zs f r:=by
 obtain ⟨n1,n2,n3⟩:=jA lf.ar
 unfold cu
 rw [if_neg n1,if_neg n2,if_neg n3]
section
variable {P:Program} {w:World} {K:PySem.W.Frag} {mg:Str->Option Value} {base:Heap}
noncomputable abbrev Mx:List Str:=["_law_way","_law_title","_law_fields_here","_law_values"]
structure JR (K:Frag) (H:Hp) (p lw a b:Addr) (st:gC) (W:List jb) (nm:Str) (fs:List jM) (zs:List Int) (v:Bool) (m:Nat):Prop where
 wa:cX K H p lw st W
 wl:W.length≤100
 fa:∃ xs,H a=some (.tup xs)/\Paired (fj H) xs fs
 fl:fs.length≤4
 hb:H b=some (.tup (zs.map V.int))
 zl:zs.length=fs.length
 wk:Wn (qO nm fs zs) W st v m
noncomputable def Fq (K:Frag):Sp:=fun vs H Q _=>∃ p lw a b st W nm fs zs v m,vs=[.ref p,.str nm,.ref a,.ref b]/\JR K H p lw a b st W nm fs zs v m/\∀ q H',H' q=some (.tup [.bl v,.int (m:Nat)])->aC H H'->Q (.ref q) H'
noncomputable abbrev P_:List Str:=["_law_way","_law_title","_law_fields_here","_law_values","_law_jump","_law_rows","_law_many","_law_step","_law_leaf_here","_law_yes","_law_no"]
theorem oR:aU P_ Mx (aD (top 80)):=by ext
theorem Ij (wo:eO st W) (h:Wn pz W j b m):∀ k,j=.inr k->m+k≤W.length:=by
 induction h with
 |fin=>exact fun k e=>by cases e
 | @row k r b n hr w ih=>
   intro k' e
   cases e
   have hk:=(List.getElem?_eq_some_iff.mp hr).1
   obtain ⟨_,j1,j2⟩:=cz wo hr
   have jo:j6 k W.length (if pz r.1=true then r.2.1 else r.2.2):=by split;exact j1;exact j2
   generalize (if pz r.1=true then r.2.1 else r.2.2)=j at w ih jo
   cases j with
   |inl b=>cases w;lia
   | inr q=>
     have jo:k<q/\q<W.length:=jo
     have:=ih q rfl
     lia
theorem Je (F:fc K "_law_walked" "_law_walked" (top 80) f fd) (T:Txt K mg) (DE:cj K mg "_law_ended" (top 77) ["_law_jump"] fE fdE) (GE:aQ P w K mg base bC 1 fE fdE ["_law_jump"] Bb)
 (DL:cj K mg "_law_passes" (top 72) HW fL fdL) (GL:aQ P w K mg base bC 5 fL fdL HW (Hn K 5)):aQ P w K mg base bC 6 f fd Mx (Fq K):=by
 refine F.ok oR (by ext) fun cdv A outer s H vs Q E hr h=>?_
 obtain ⟨p,lw,a,b,st,W,nm,fs,zs,v,m0,rfl,⟨⟨hp,⟨ws,hl,rs⟩,wo⟩,wl,⟨xs,ha,pf⟩,fl,hb,zl,wk⟩,k⟩:=h
 have hr1:bR 1 _:=hr.mono (show 1≤5 by decide)
 refine ⟨_,(ak (cM (pv 0) (cD rfl (aP (aK (i:=4) oR.nd rfl (.inl rfl)) (aP (aK (i:=5) oR.nd rfl (.inl rfl)) bY))))
  (ak (bc (i:=6) oR.nd rfl (.inl rfl) aA)
  (ak (dH PassesOwn.never rfl (dG rfl T.range (aa (bh cH (aG aO (by rfl) T.len bH (aa (pv 5) aj)) aA) aj)) (aK (i:=7) oR.nd rfl (.inl rfl)) (aB
   (a_ (cN (bU (bO DE GE hr1 (aa (pv 4) aj))))
    (ak (cM (aZ cF (pv 5) (pv 4) (fun _ _=>rfl)) (cD rfl (aP (aK (i:=8) oR.nd rfl (.inl rfl)) (aP (aK (i:=9) oR.nd rfl (.inl rfl)) (aP (aK (i:=10) oR.nd rfl (.inl rfl)) bY)))))
    (ak (bc (i:=4) oR.nd rfl (.inl rfl) (eN (bU (bO DL GL hr (aa (pv 8) (aa (pv 1) (aa (pv 2) (aa (pv 3) aj)))))) (pv 9) (pv 10)))
    (aB (bc (i:=6) oR.nd rfl (.inl rfl) (bh cH (pv 6) aA))))) aL)))
  (aB (aJ (bu (aa (pv 4) (aa (pv 6) aj)))))))),?_⟩
 have xl:=rs.length
 rw [List.length_map] at xl
 refine ⟨_,rfl,p,_,rfl,bD.of hp,rfl,_,_,rfl,_,_,rfl,rfl,?_⟩
 dsimp only [bG,List.set,L2.start]
 have big:1000≤sizeLine:=by decide
 have m0l:m0≤W.length:=by
  rcases wo with ⟨b',rfl,rfl⟩|⟨rfl,pos,wok⟩
  ·cases wk;lia
  ·have:=Ij (.inr ⟨rfl,pos,wok⟩) wk 0 rfl
   lia
 refine ⟨_,rfl,lw,ws,rfl,.inl (bF.of hl),_,_,rfl,rfl,((ws.length:Int)+1),rfl,by lia,by lia,fZ (lo:=0) (fun i σ' H'=>(∃ (j:gC) (m n:Nat) (u7 u8 u9 u10:Option V),σ'=[some (.ref p),some (.str nm),some (.ref a),some (.ref b),some (jV j),some (.ref lw),some (.int (n:Nat)),u7,u8,u9,u10]/\Wn (qO nm fs zs) W j v m/\n+m=m0/\(m=0∨n=i))/\aC H H') ⟨⟨st,m0,0,_,_,_,_,rfl,wk,by lia,.inr rfl⟩,aC.refl _⟩ ?_ ?_⟩
 ·rintro i σ' H1 hi ⟨⟨j,m,n,u7,u8,u9,u10,rfl,wn,en,ei⟩,s1⟩
  dsimp only [bG,List.set]
  refine ⟨_,rfl,lM j,by rw [← Ca];rfl,_,rfl,?_⟩
  cases wn with
  |fin=>exact bJ rfl ⟨⟨.inl v,0,n,_,_,_,_,rfl,.fin,en,.inl rfl⟩,s1⟩
  | @row q r _ m' hir w'=>
    refine b_ rfl ?_
    obtain ⟨lf,_,_⟩:=cz wo hir
    obtain ⟨x,hx,rx⟩:=(rs.same s1).get (i:=q) (d:=jN r) (by rw [List.getElem?_map,hir];rfl)
    obtain ⟨c,x0,rfl,sq,r1⟩:=jU rx
    refine ⟨_,rfl,_,rfl,lw,_,_,_,rfl,rfl,bF.of (s1 _ _ hl),aF hx,c,_,rfl,sq,rfl,_,_,rfl,_,_,rfl,_,_,rfl,rfl,?_⟩
    dsimp only [bG,List.set]
    obtain ⟨f',r',er,lf',na⟩:=lf
    rw [er] at r1
    cases r1 with
    |@tup q' us _ sq' rs'=>
    have tr':=lf'.tr
    refine ⟨_,rfl,_,rfl,_,rfl,_,rfl,q',a,b,f',nm,r',xs,fs,zs,rfl,⟨.tup sq' rs',tr'.td,tr'.sh,Nat.le_trans (oF tr'.td tr'.sh) (Nat.le_trans tr'.dp (by decide)),s1 _ _ ha,eQ pf (fun b ys e=>s1 _ _ e),fl,s1 _ _ hb,zl⟩,fun H2 s2=>?_⟩
    rw [wA lf' 4]
    have ep:qO nm fs zs r.1=g_ nm fs zs f' r':=by rw [er];rfl
    rw [ep] at w'
    cases hp':g_ nm fs zs f' r' with
    | true=>
      rw [hp',if_pos rfl] at w'
      exact ⟨_,rfl,b_ rfl ⟨_,rfl,_,rfl,_,_,rfl,rfl,⟨r.2.1,m',n+1,_,_,_,_,rfl,w',by lia,.inr (by lia)⟩,s1.trans s2⟩⟩
    | false=>
      rw [hp',if_neg Bool.false_ne_true] at w'
      exact ⟨_,rfl,bJ rfl ⟨_,rfl,_,rfl,_,_,rfl,rfl,⟨r.2.2,m',n+1,_,_,_,_,rfl,w',by lia,.inr (by lia)⟩,s1.trans s2⟩⟩
 ·rintro σ' H1 ⟨⟨j,m,n,u7,u8,u9,u10,rfl,wn,en,ei⟩,s1⟩
  have e0:m=0:=by lia
  subst e0
  cases wn
  exact ⟨_,rfl,_,rfl,(by ext),fun q hq=>k q _ (by rw [au,show n=m0 by lia];rfl) (s1.trans (aC.new hq))⟩
noncomputable def Gb (K:Frag):Sp:=fun vs H Q _=>∃ p lw st W,vs=[.ref p]/\cX K H p lw st W/\∀ p' lw' H',H lw'=none->cX K H' p' lw' st W->aC H H'->Q (.ref p') H'
theorem Ol:aU ["_law_way"] ["_law_way"] (aD (top 82)):=by ext
theorem J3 (F:fc K "_law_kept_way" "_law_kept_way" (top 82) f fd) (T:Txt K mg):aQ P w K mg base bC 1 f fd ["_law_way"] (Gb K):=by
 refine F.ok Ol (by ext) fun cdv A outer s H vs Q E hr h=>?_
 obtain ⟨p,lw,st,W,rfl,⟨hp,⟨ws,hl,rs⟩,wo⟩,k⟩:=h
 refine ⟨_,(aB (aJ (bu (aa (aZ aY (pv 0) aA (fun _ _=>rfl)) (aa (g8 iW (by rfl) T.list lg (aa (aZ aY (pv 0) aA (fun _ _=>rfl)) aj)) aj))))),?_⟩
 refine ⟨_,rfl,p,_,_,_,rfl,rfl,bD.of hp,aF (j:=0) rfl,_,rfl,p,_,_,_,rfl,rfl,bD.of hp,aF (j:=1) rfl,lw,ws,rfl,.inl (bF.of hl),fun l hl'=>⟨(by ext),fun q hq=>?_⟩⟩
 have s1:=aC.new (o:=.lst ws) hl'
 have s2:=aC.new (o:=.tup [jV st,.ref l]) hq
 exact k q l _ hl' ⟨au,⟨ws,s2 _ _ au,(rs.same s1).same s2⟩,wo⟩ (s1.trans s2)
noncomputable def LK (K:Frag):Sp:=fun vs H Q _=>∃ (p dc a:Addr) (nm:Str) (xs:List V) (fs:List jM),vs=[.ref p,.str nm,.ref a]/\Dr H p dc/\Nm nm/\H a=some (.tup xs)/\Paired (fj H) xs fs/\fs.length≤4/\(∀ f∈fs,lF f)/\∀ pw lw st W H',cX K H' pw lw st W->W.length≤32->Dr H' p dc->bW p H H'->Q (.ref pw) H'
noncomputable abbrev Qv:List Str:=["_law_d","_law_title","_law_fields_here","_law_names","_law_test_here"]
theorem Fp:aU Qv ["_law_d","_law_title","_law_fields_here"] (aD (top 81)):=by ext
theorem Jx (F:fc K "_law_some_way" "_law_some_way" (top 81) f fd) (DN:cj K mg "_law_names_of" (top 74) ["_law_d","_law_fields_here"] fN fdN) (GN:aQ P w K mg base bC 4 fN fdN ["_law_d","_law_fields_here"] M4)
 (DT:cj K mg "_law_test" (top 67) ["_law_d","_law_names","_law_kinds"] fT fdT) (GT:aQ P w K mg base bC 10 fT fdT ["_law_d","_law_names","_law_kinds"] (Kf K)) (DM:cj K mg "made" (top 40) ["test"] fM fdM) (GM:aQ P w K mg base bC 12 fM fdM ["test"] (Jk K cT)):aQ P w K mg base bC 13 f fd ["_law_d","_law_title","_law_fields_here"] (LK K):=by
 refine F.ok Fp (by ext) fun cdv A outer s H vs Q E hr h=>?_
 obtain ⟨p,dc,a,nm,xs,fs,rfl,D,hnm,ha,pf,fl,fo,k⟩:=h
 have hr4:bR 4 _:=hr.mono (show 4≤12 by decide)
 have hr10:bR 10 _:=hr.mono (show 10≤12 by decide)
 refine ⟨_,(ak (bc (i:=3) Fp.nd rfl (.inl rfl) (bO DN GN hr4 (aa (pv 0) (aa (pv 2) aj))))
  (ak (bc (i:=4) Fp.nd rfl (.inl rfl) (bO DT GT hr10 (aa (pv 0) (aa (pv 3) (aa (bM (aa (pv 1) (aa (aZ (r:=By K) cF (pv 3) (jL iu aA) (fun _ _=>rfl)) aj))) aj)))))
  (aB (aJ (bO DM GM hr (aa (pv 4) aj)))))),?_⟩
 refine ⟨_,rfl,_,rfl,p,dc,a,xs,fs,rfl,D,ha,pf,fl,fo,fun ln ys H1 hln yne yl ynm D1 b1=>?_⟩
 have lastV:qj (ys.map V.str) (-1)=some (.str (ys.getLast yne)):=by
  have hl:0<ys.length:=List.length_pos_iff.mpr yne
  unfold qj Ao
  rw [if_neg (by decide),if_pos (by rw [List.length_map];lia)]
  have e:(-1+((ys.map V.str).length:Int)).toNat=ys.length-1:=by rw [List.length_map];lia
  show (ys.map V.str)[(-1+((ys.map V.str).length:Int)).toNat]?=_
  rw [e,List.getElem?_map,List.getElem?_eq_getElem (by lia),List.getLast_eq_getElem]
  rfl
 dsimp only [bG,List.set]
 refine ⟨_,rfl,_,rfl,_,rfl,_,rfl,_,rfl,ln,_,_,_,rfl,rfl,bF.of hln,lastV,(by ext),fun l1 hl1=>?_⟩
 have s1:=aC.new (o:=.lst [.str nm,.str (ys.getLast yne)]) hl1
 refine ⟨p,dc,ln,l1,ys,[nm,ys.getLast yne],rfl,D1.new hl1,bF.of (s1 _ _ hln),bF.of au,yne,by simp,by lia,by simp,ynm,?_,fun x d H2 rx tx ok D2 b2=>?_⟩
 ·intro y hy
  simp at hy
  rcases hy with rfl|rfl
  ·exact hnm
  ·exact ynm _ (List.getLast_mem yne)
 obtain ⟨sh,de,pa⟩:=iM ok
 have ll:=kY tx.td sh de
 have p5:(2:Nat) ^ 5=32:=by decide
 exact ⟨_,rfl,x,d,rfl,rx,tx.td,fun _ pw lw st W H3 wa wl _ s3=>k pw lw st W H3 wa (by lia) (D2.mono s3) ((b1.trans (s1.but.trans b2)).trans s3.but),fun h=>Bool.false_ne_true (h.symm.trans ok)⟩
end
theorem ju {S:Nat->Bool}:∀ {xs ys:List Nat} {c d:Nat} {a b:List Nat},(∀ c∈xs,S c=true)->(∀ c∈ys,S c=true)->S c=false->S d=false->xs++c::a=ys++d::b->xs=ys/\c=d/\a=b
 | [],[],c,d,a,b,_,_,_,_,h=>by
   injection h with h1 h2
   exact ⟨rfl,h1,h2⟩
 | [],y::ys,c,d,a,b,_,hy,hc,_,h=>by
   injection h with h1 h2
   rw [h1,hy y (List.mem_cons_self ..)] at hc
   cases hc
 | x::xs,[],c,d,a,b,hx,_,_,hd,h=>by
   injection h with h1 h2
   rw [← h1,hx x (List.mem_cons_self ..)] at hd
   cases hd
 | x::xs,y::ys,c,d,a,b,hx,hy,hc,hd,h=>by
   injection h with h1 h2
   obtain ⟨r1,r2⟩:=ju (fun c m=>hx c (List.mem_cons_of_mem _ m)) (fun c m=>hy c (List.mem_cons_of_mem _ m)) hc hd h2
   exact ⟨by rw [h1,r1],r2⟩
noncomputable abbrev wS:Nat->Bool:=fun c=>decide (c≠39/\c≠41/\c≠44)
theorem Ez:∀ c,c<123->97≤c->Unicode.isPrintable c=true:=by ext
theorem GJ (h:97≤c/\c≤122):Builtin.Str.reprChar 39 c=[c]:=by
 unfold Builtin.Str.reprChar
 have e:∀ k:Nat,k<97->(c == k)=false:=fun k hk=>beq_false_of_ne (by lia)
 simp only [e 39 (by decide),e 92 (by decide),e 10 (by decide),e 13 (by decide),e 9 (by decide),Ez c (by lia) h.1]
 rfl
theorem uM:∀ (l:List Nat) (acc:Array Nat),(∀ c∈l,97≤c/\c≤122)->(l.foldl (fun out c=>out++(Builtin.Str.reprChar 39 c).toArray) acc).toList=acc.toList++l
 |[],acc,_=>by simp
 | c::l,acc,h=>by
   rw [List.foldl_cons,uM l _ fun d hd=>h d (List.mem_cons_of_mem _ hd),GJ (h c (List.mem_cons_self ..))]
   simp
theorem qu (h:Lc x):(reprText x).cps.toList=39::(x.cps.toList++[39]):=by
 have q:reprQuote x=39:=by
  unfold reprQuote
  have:x.cps.contains 39=false:=by
   rw [Bool.eq_false_iff]
   intro hc
   have:=h 39 (by simpa using hc)
   lia
  rw [this];rfl
 show ((x.cps.foldl (fun out c=>out++(Builtin.Str.reprChar (reprQuote x) c).toArray) #[reprQuote x]).push (reprQuote x)).toList=_
 rw [q,← Array.foldl_toList,Array.toList_push,uM _ _ h]
 simp
theorem Hs (a b:Str):(tupleText [a,b]).cps.toList=40::(a.cps.toList++44::32::(b.cps.toList++[41])):=by
 have e:tupleText [a,b]=("(" : Str)++(a++", "++b)++(")" : Str):=rfl
 rw [e]
 simp only [Str.cps_append,Array.toList_append]
 rw [show (("(" : Str)).cps.toList=[40] from rfl,show ((", " : Str)).cps.toList=[44,32] from rfl,show ((")" : Str)).cps.toList=[41] from rfl]
 simp
theorem sy (a b c:Str):(tupleText [a,b,c]).cps.toList=40::(a.cps.toList++44::32::(b.cps.toList++44::32::(c.cps.toList++[41]))):=by
 have e:tupleText [a,b,c]=("(" : Str)++(a++", "++(b++", "++c))++(")" : Str):=rfl
 rw [e]
 simp only [Str.cps_append,Array.toList_append]
 rw [show (("(" : Str)).cps.toList=[40] from rfl,show ((", " : Str)).cps.toList=[44,32] from rfl,show ((")" : Str)).cps.toList=[41] from rfl]
 simp
noncomputable abbrev HS (i:Int):List Nat:=(Str.ofString (toString i)).cps.toList
theorem jr (i:Int):∀ c∈HS i,c=45∨(48≤c/\c≤57):=by
 obtain ⟨ds,h1,_,_,h2,_⟩:=lV i
 intro c hc
 unfold HS at hc
 rcases h2 with h|h <;> rw [h] at hc
 ·exact .inr (h1 c hc)
 ·rcases List.mem_cons.mp hc with rfl|hc
  ·exact .inl rfl
  ·exact .inr (h1 c hc)
theorem yM (h1:-999999≤i) (h2:i≤999999) (h:HS i=HS j):i=j:=by
 have e:Str.ofString (toString i)=Str.ofString (toString j):=L2.o7 h
 obtain ⟨_,_,_,_,_,k1⟩:=lV i
 obtain ⟨_,_,_,_,_,k2⟩:=lV j
 have l:=(uY h1 h2).1
 have a:=k1 (by lia)
 have b:=k2 (by rw [← e];lia)
 rw [e,b] at a
 exact (Option.some.inj a).symm
theorem Et (i:Int):∀ c∈HS i,wS c=true:=fun c hc=>by
 have:=jr i c hc
 exact decide_eq_true (by lia)
noncomputable def jT (j:gC):List Nat:=(jD j).shown.cps.toList
theorem Ck:∀ (j:gC),∀ c∈jT j,wS c=true
 |.inl true=>by decide
 |.inl false=>by decide
 |.inr n=>Et n
theorem Ag:∀ {a b:gC} {i k n:Nat},n≤100->j6 i n a->j6 k n b->jT a=jT b->a=b
 |.inl true,.inl true,_,_,_,_,_,_,_=>rfl
 |.inl false,.inl false,_,_,_,_,_,_,_=>rfl
 |.inl true,.inl false,_,_,_,_,_,_,h=>by cases h
 |.inl false,.inl true,_,_,_,_,_,_,h=>by cases h
 | .inl true,.inr m,_,_,_,_,_,_,h=>by
   have:=jr m 84 (by show 84∈jT (.inr m);rw [← h];decide)
   lia
 | .inl false,.inr m,_,_,_,_,_,_,h=>by
   have:=jr m 70 (by show 70∈jT (.inr m);rw [← h];decide)
   lia
 | .inr m,.inl true,_,_,_,_,_,_,h=>by
   have:=jr m 84 (by show 84∈jT (.inr m);rw [h];decide)
   lia
 | .inr m,.inl false,_,_,_,_,_,_,h=>by
   have:=jr m 70 (by show 70∈jT (.inr m);rw [h];decide)
   lia
 | .inr m,.inr m',i,k,n,hn,jo,jo',h=>by
   have jo:i<m/\m<n:=jo
   have:(m:Int)=(m':Nat):=yM (by lia) (by lia) h
   rw [show m=m' by lia]
theorem BV (h:Lc x):∀ c∈x.cps.toList,wS c=true:=fun c hc=>by
 have:=h c hc
 exact decide_eq_true (by lia)
noncomputable abbrev Ma (y n:gC):List Nat:=44::32::(jT y++44::32::(jT n++[41]))
theorem yL (hm:m≤100) (a1:j6 i m y) (a2:j6 i m n) (b1:j6 k m y') (b2:j6 k m n') (h:Ma y n=Ma y' n'):y=y'/\n=n':=by
 injection h with _ h
 injection h with _ h
 obtain ⟨e1,_,h⟩:=ju (Ck y) (Ck y') (by decide) (by decide) h
 injection h with _ h
 obtain ⟨e2,_,_⟩:=ju (Ck n) (Ck n') (by decide) (by decide) h
 exact ⟨Ag hm a1 b1 e1,Ag hm a2 b2 e2⟩
theorem rO (lf:k_ r.1):∃ (f x:Str) (t:List Nat),Lc f/\Lc x/\(jN r).shown.cps.toList=40::40::39::(f.cps.toList++39::44::32::39::(x.cps.toList++39::t))/\
 ((r.1=.tuple [.str f,.str x]/\t=41::Ma r.2.1 r.2.2)∨∃ i:Int,-999999≤i/\i≤999999/\r.1=.tuple [.str f,.str x,.int i]/\t=44::32::(HS i++41::Ma r.2.1 r.2.2)):=by
 obtain ⟨f,as,er,lf,na⟩:=lf
 have e0:(jN r).shown=tupleText [r.1.shown,(jD r.2.1).shown,(jD r.2.2).shown]:=by
  unfold jN
  simp only [PyData.shown,PyData.shownAll]
 rw [e0,sy,er]
 cases lf with
 |all=>exact absurd rfl na
 | @is x h=>
   have nm:=(cQ x).mp h
   have li:Lc "is":=by unfold Lc;decide
   refine ⟨"is",x,_,li,nm.lc,?_,.inl ⟨rfl,rfl⟩⟩
   rw [show (PyData.tuple [.str "is",.str x]).shown=tupleText [reprText "is",reprText x] by simp only [PyData.shown,PyData.shownAll],Hs,qu li,qu nm.lc]
   simp [jT]
 | @num _ x i hf h hi=>
   have nm:=(cQ x).mp h
   have li:Lc f:=by rcases hf with rfl|rfl <;> (unfold Lc;decide)
   have hb:=hi
   unfold mQ at hb
   simp at hb
   refine ⟨f,x,_,li,nm.lc,?_,.inr ⟨i,hb.1,hb.2,rfl,rfl⟩⟩
   rw [show (PyData.tuple [.str f,.str x,.int i]).shown=tupleText [reprText f,reprText x,Str.ofString (toString i)] by simp only [PyData.shown,PyData.shownAll],sy,qu li,qu nm.lc]
   simp [jT]
   rfl
theorem Az (hn:n≤100) (la:k_ a.1) (lb:k_ b.1) (a1:j6 i n a.2.1) (a2:j6 i n a.2.2) (b1:j6 k n b.2.1) (b2:j6 k n b.2.2) (h:(jN a).shown=(jN b).shown):a=b:=by
 obtain ⟨f,x,t,lf,lx,e,c⟩:=rO la
 obtain ⟨f',x',t',lf',lx',e',c'⟩:=rO lb
 rw [h,e'] at e
 injection e with _ e
 injection e with _ e
 injection e with _ e
 obtain ⟨e1,_,e⟩:=ju (BV lf') (BV lf) (by decide) (by decide) e
 injection e with _ e
 injection e with _ e
 injection e with _ e
 obtain ⟨e2,_,ez⟩:=ju (BV lx') (BV lx) (by decide) (by decide) e
 have e1:f'=f:=L2.o7 e1
 have e2:x'=x:=L2.o7 e2
 subst e1 e2
 obtain ⟨d,y,z⟩:=a
 obtain ⟨d',y',z'⟩:=b
 rcases c with ⟨c1,ct⟩|⟨j,j1,j2,c1,ct⟩ <;> rcases c' with ⟨c1',ct'⟩|⟨j',j1',j2',c1',ct'⟩ <;> rw [ct,ct'] at ez <;> dsimp only at c1 c1' a1 a2 b1 b2 ez <;> rw [c1,c1']
 ·injection ez with _ ez
  obtain ⟨rfl,rfl⟩:=yL hn b1 b2 a1 a2 ez
  rfl
 ·injection ez with ez _
  cases ez
 ·injection ez with ez _
  cases ez
 ·injection ez with _ ez
  injection ez with _ ez
  obtain ⟨e1,_,ez⟩:=ju (Et j') (Et j) (by decide) (by decide) ez
  obtain ⟨rfl,rfl⟩:=yL hn b1 b2 a1 a2 ez
  rw [yM j1' j2' e1]
theorem D_ (hn:n≤100):∀ {j:gC},j6 i n j->(jD j).showable=true/\(jD j).hasDict=false/\(jD j).depth≤10/\(jD j).shown.length≤400
 |.inl true,_=>by decide
 |.inl false,_=>by decide
 | .inr m,jo=>by
   have jo:i<m/\m<n:=jo
   have h:=uY (i:=(m:Nat)) (by lia) (by lia)
   exact ⟨decide_eq_true h.2,rfl,by simp [jD,PyData.depth],Nat.le_trans h.1 (by decide)⟩
theorem Jv (lf:k_ d):d.showable=true/\d.hasDict=false/\d.depth≤10/\d.shown.length≤400:=by
 obtain ⟨f,as,rfl,lf,na⟩:=lf
 cases lf with
 |all=>exact absurd rfl na
 | @is x h=>
   have h1:=yF ((cQ x).mp h)
   refine ⟨by simp [PyData.showable,PyData.showableAll],by simp [PyData.hasDict,PyData.hasDictAll],by simp [PyData.depth,PyData.depthAll],?_⟩
   have:=yR (k:=82) (ts:=[reprText "is",reprText x]) (fun t ht=>by
    simp only [List.mem_cons,List.not_mem_nil,or_false] at ht
    rcases ht with rfl|rfl
    ·decide +kernel
    ·exact h1)
   rw [show (PyData.tuple [.str "is",.str x]).shown=tupleText [reprText "is",reprText x] by simp only [PyData.shown,PyData.shownAll]]
   exact Nat.le_trans this (show 2*84+3≤400 by decide)
 | @num _ x i hf h hi=>
   have h1:=yF ((cQ x).mp h)
   have h2:=Cp hi
   refine ⟨by simp [PyData.showable,PyData.showableAll,h2.2],by simp [PyData.hasDict,PyData.hasDictAll],by simp [PyData.depth,PyData.depthAll],?_⟩
   have:=yR (k:=82) (ts:=[reprText f,reprText x,Str.ofString (toString i)]) (fun t ht=>by
    simp only [List.mem_cons,List.not_mem_nil,or_false] at ht
    rcases ht with rfl|rfl|rfl
    ·rcases hf with rfl|rfl <;> decide +kernel
    ·exact h1
    ·lia)
   rw [show (PyData.tuple [.str f,.str x,.int i]).shown=tupleText [reprText f,reprText x,Str.ofString (toString i)] by simp only [PyData.shown,PyData.shownAll]]
   exact Nat.le_trans this (show 3*84+3≤400 by decide)
theorem zT (hn:n≤100) (la:k_ r.1) (a1:j6 i n r.2.1) (a2:j6 i n r.2.2):Dp (jN r):=by
 obtain ⟨p1,p2,p3,p4⟩:=Jv la
 obtain ⟨q1,q2,q3,q4⟩:=D_ hn a1
 obtain ⟨s1,s2,s3,s4⟩:=D_ hn a2
 unfold jN
 refine ⟨by simp [PyData.showable,PyData.showableAll,p1,q1,s1],by simp [PyData.hasDict,PyData.hasDictAll,p2,q2,s2],?_,?_⟩
 ·simp [PyData.depth,PyData.depthAll]
  lia
 ·have:=yR (k:=400) (ts:=[r.1.shown,(jD r.2.1).shown,(jD r.2.2).shown]) (fun t ht=>by
   simp only [List.mem_cons,List.not_mem_nil,or_false] at ht
   rcases ht with rfl|rfl|rfl <;> assumption)
  rw [show (PyData.tuple [r.1,jD r.2.1,jD r.2.2]).shown=tupleText [r.1.shown,(jD r.2.1).shown,(jD r.2.2).shown] by simp only [PyData.shown,PyData.shownAll]]
  exact Nat.le_trans this (show 3*402+3≤sizeLine by decide)
noncomputable def jl:gC->List Nat
 |.inl _=>[]
 |.inr n=>[n]
theorem tR (le:Lean st W) (wl:W.length≤100):(W.map fun r=>(jN r).shown).Nodup:=by
 refine List.pairwise_map.mpr (List.Pairwise.imp_of_mem (fun {a b} ha hb hne he=>hne ?_) le.nd)
 obtain ⟨i,hi⟩:=List.getElem?_of_mem ha
 obtain ⟨k,hk⟩:=List.getElem?_of_mem hb
 obtain ⟨l1,a1,a2⟩:=cz le.wo hi
 obtain ⟨l2,b1,b2⟩:=cz le.wo hk
 exact Az wl l1 l2 a1 a2 b1 b2 he
theorem Dn:∀ {a b:gC},a≠b->decide (jV a=jV b)=false
 |.inl a,.inl b,h=>decide_eq_false fun e=>h (by injection e with e;rw [e])
 |.inr a,.inr b,h=>decide_eq_false fun e=>h (by injection e with e;rw [Int.ofNat.inj e])
 |.inl a,.inr b,h=>decide_eq_false fun e=>by cases e
 |.inr a,.inl b,h=>decide_eq_false fun e=>by cases e
theorem yV:∀ {a b:gC},zY (lM a)=zY (lM b)->Hu (jV a) (jV b)=true
 |.inl _,.inl _,_=>rfl
 |.inr _,.inr _,_=>rfl
 |.inl _,.inr _,h=>by cases h
 |.inr _,.inl _,h=>by cases h
noncomputable def Hv (K:Frag):Sp:=fun vs H Q _=>∃ p lw st W,vs=[.ref p]/\cX K H p lw st W/\W.length≤100/\Lean st W/\∀ H',aC H H'->Q (.bl true) H'
noncomputable abbrev Oc:List Str:=["_law_way","_law_start","_law_rows","_law_seen","_law_at","_law_leaf_here","_law_yes","_law_no","_law_shown"]
theorem q9:aU Oc ["_law_way"] (aD (top 83)):=by ext
theorem J8 (F:fc K "_law_lean" "_law_lean" (top 83) f fd) (T:Txt K mg) (hset:mg "set" = none) (DE:cj K mg "_law_ended" (top 77) ["_law_jump"] fE fdE) (GE:aQ P w K mg base bC 1 fE fdE ["_law_jump"] Bb):aQ P w K mg base bC 2 f fd ["_law_way"] (Hv K):=by
 refine F.ok q9 (by ext) fun cdv A outer s H vs Q E hr h=>?_
 obtain ⟨p,lw,st,W,rfl,⟨hp,⟨ws,hl,rs⟩,wo⟩,wl,le,k⟩:=h
 have ndJ:List.Nodup (["_law_jump"]:List Str):=by ext
 have ndR:List.Nodup (["_law_row"]:List Str):=by ext
 refine ⟨_,(ak (cM (pv 0) (cD rfl (aP (aK (i:=1) q9.nd rfl (.inl rfl)) (aP (aK (i:=2) q9.nd rfl (.inl rfl)) bY))))
  (ak (bc (i:=3) q9.nd rfl (.inl rfl) (bM (aa aA aj)))
  (ak (dH PassesOwn.never rfl (dG rfl T.range (aa (aG aO (by rfl) T.len bH (aa (pv 2) aj)) aj)) (aK (i:=4) q9.nd rfl (.inl rfl))
   (ak (cM (aZ cF (pv 2) (pv 4) (fun _ _=>rfl)) (cD rfl (aP (aK (i:=5) q9.nd rfl (.inl rfl)) (aP (aK (i:=6) q9.nd rfl (.inl rfl)) (aP (aK (i:=7) q9.nd rfl (.inl rfl)) bY)))))
   (ak (a_ (PW.pt (gJ (aH gU (pv 4) (pv 3) rfl) (fJ (PW.pt (gW (bU (bO DE GE hr (aa (pv 6) aj))) (gW (bU (bO DE GE hr (aa (pv 7) aj))) (ir (aH bz (pv 6) (pv 7) (aN _))))))))) (aB (aJ cY)) aL)
   (ak (a_ (PW.pt (gW (cN (bU (bO DE GE hr (aa (pv 6) aj)))) (gW (cN (bU (bO DE GE hr (aa (pv 7) aj)))) (ir (aH bz (pv 6) (pv 7) (aN _)))))) (aB (aJ cY)) aL)
   (aB (cJ (h_ PySem.F.plainAttrs_list PySem.F.slot_list_extend PySem.F.type_list_extend uw (pv 3) (aa (gR (g:=bG 0) (own:=["_law_jump"]) (js:=[]) (N':=["_law_jump"]) (bL.of (osc:=aD (top 83)) (N:=Oc) rfl rfl (by ext)) rfl (iB (bu (aa (pv 6) (aa (pv 7) aj)))) (fun _ _ _ _ _=>(aK (i:=0) ndJ rfl (.inl rfl) (.inr rfl))) (fun _ _ _ _ _=>kW (cN (bU (bO DE GE hr (aa (pv 0) aj))))) (fun _ _ _ _ _=>pv 0)) aj))))))))
  (ak (eY (g:=bG 0) (i:=8) (own:=["_law_row"]) (js:=[]) (N':=["_law_row"]) (bL.of (osc:=aD (top 83)) (N:=Oc) rfl rfl (by ext)) rfl q9.nd rfl rfl (iQ (pv 2)) (fun _ _ _ _ _=>(aK (i:=0) ndR rfl (.inl rfl) (.inr rfl))) (fun _ _ _ _ _=>dF) (fun _ _ _ _ _=>aG (r:=yf K) (tG hr.units hr.gd) (by rfl) T.repr Cy (aa (pv 0) aj)))
  (aB (aJ (bN bz (aG vO (by rfl) T.len bH (aa (g8 (vX rfl) (by rfl) hset Ho (aa (pv 8) aj)) aj)) (aG aO (by rfl) T.len bH (aa (pv 8) aj)) (aN _)))))))),?_⟩
 have xl:=rs.length
 rw [List.length_map] at xl
 have big:200000≤sizeLine:=by decide
 refine ⟨_,rfl,p,_,rfl,bD.of hp,rfl,_,_,rfl,_,_,rfl,rfl,?_⟩
 dsimp only [bG,List.set,L2.start]
 refine ⟨(by show 1≤sizeLine;lia),fun qs hqs=>?_⟩
 have s0:aC H (upd H qs (.lst (nV [0]))):=aC.new hqs
 have e0:upd H qs (.lst (nV [0])) qs=some (.lst (nV [0])):=au
 have n0:∀ b o,H b=some o->b≠qs:=fun b o e=>aR e hqs
 refine ⟨_,rfl,lw,ws,rfl,.inl (bF.of (s0 _ _ hl)),(ws.length:Int),rfl,by lia,by lia,fZ (lo:=0) (fun i σ' H'=>∃ (R:List Nat) (u4 u5 u6 u7:Option V),σ'=[some (.ref p),some (jV st),some (.ref lw),some (.ref qs),u4,u5,u6,u7,none]/\H' qs=some (.lst (nV R))/\R.length≤1+2*i/\0∈R/\(∀ (k:Nat) (r:jb) (m:Nat),k<i->W[k]?=some r->r.2.1=.inr m∨r.2.2=.inr m->m∈R)/\aC H H') ⟨[0],_,_,_,_,rfl,e0,by decide,by decide,fun k r m h=>by lia,s0⟩ ?_ ?_⟩
 ·rintro i σ' H1 hi ⟨R,u4,u5,u6,u7,rfl,hq1,rl,r0,cl,s1⟩
  rw [Int.zero_add]
  have hiw:i<W.length:=by lia
  have hir:=List.getElem?_eq_getElem hiw
  obtain ⟨x,hx,rx⟩:=(rs.same s1).get (i:=i) (d:=jN W[i]) (by rw [List.getElem?_map,hir];rfl)
  generalize W[i]=r at hir rx
  obtain ⟨d,y,n⟩:=r
  have hne:y≠n:=le.ne i _ hir
  have inR:i∈R:=by
   by_cases z:i=0
   ·rw [z];exact r0
   ·obtain ⟨k,r,hk,hr',hj⟩:=le.rc i (by lia) hiw
    exact cl k r i hk hr' hj
  obtain ⟨c,x0,rfl,sq,r1⟩:=jU rx
  dsimp only [bG,List.set]
  refine ⟨_,rfl,_,rfl,lw,_,_,_,rfl,rfl,bF.of (s1 _ _ hl),aF hx,c,_,rfl,sq,rfl,_,_,rfl,_,_,rfl,_,_,rfl,rfl,?_⟩
  dsimp only [bG,List.set]
  refine ⟨_,rfl,_,rfl,qs,nV R,rfl,.inl (bF.of hq1),rfl,v6 R,_,rfl,bJ (by show (!inV (.int (i:Nat)) (nV R))=false;rw [z8,decide_eq_true inR];rfl) ?_⟩
  have mm:∀ (ys:List Nat),ys=jl y++jl n->∀ (k:Nat) (r:jb) (m:Nat),k<i+1->W[k]?=some r->r.2.1=.inr m∨r.2.2=.inr m->m∈R++ys:=by
   rintro _ rfl k r m hk hr' hj
   by_cases z:k=i
   ·subst z
    rw [hir] at hr'
    cases hr'
    rcases hj with hj|hj <;> (dsimp only at hj;rw [hj];simp [jl])
   ·exact List.mem_append_left _ (cl k r m (by lia) hr' hj)
  have zj:∀ j:gC,([jV j]:List V)=[gH (lM j)]:=fun j=>by rw [← Ca]
  refine ⟨_,rfl,lM y,zj y,_,rfl,?_⟩
  cases ey:zY (lM y) <;> cases en:zY (lM n)
  case' false.false=>refine bJ rfl (bJ rfl ⟨_,rfl,lM y,zj y,_,rfl,b_ (by rw [ey];rfl) ⟨_,rfl,lM n,zj n,_,rfl,b_ (by rw [en];rfl) ⟨_,rfl,_,rfl,yV (ey.trans en.symm),_,rfl,bJ (Dn hne) ?_⟩⟩⟩)
  case' false.true=>refine bJ rfl (bJ rfl ⟨_,rfl,lM y,zj y,_,rfl,b_ (by rw [ey];rfl) ⟨_,rfl,lM n,zj n,_,rfl,bJ (by rw [en];rfl) (bJ rfl ?_)⟩⟩)
  case' true.false=>refine b_ rfl ⟨_,rfl,lM n,zj n,_,rfl,bJ en (bJ rfl ⟨_,rfl,lM y,zj y,_,rfl,bJ (by rw [ey];rfl) (bJ rfl ?_)⟩)⟩
  case' true.true=>refine b_ rfl ⟨_,rfl,lM n,zj n,_,rfl,b_ en ⟨_,rfl,_,rfl,yV (ey.trans en.symm),_,rfl,bJ (Dn hne) ⟨_,rfl,lM y,zj y,_,rfl,bJ (by rw [ey];rfl) (bJ rfl ?_)⟩⟩⟩
  all_goals
   refine ⟨_,rfl,.inl ⟨rfl,_,bF.of hq1⟩,_,rfl,_,rfl,(by ext),fun t ht=>?_⟩
   have s2:=aC.new (o:=.tup [jV y,jV n]) ht
   have e2:upd H1 t (.tup [jV y,jV n]) t=some (.tup [jV y,jV n]):=au
   generalize upd H1 t (.tup [jV y,jV n])=H2 at s2 e2 ⊢
   refine ⟨t,rfl,⟨_,bD.of e2⟩,?_⟩
   refine vU (K:=K) (a:=t) (xs:=[jV y,jV n]) (fun i ys σ' H'=>(∃ v,σ'=[v])/\H'=H2/\ys=nV (([y,n].take i).flatMap jl)) (by ext) ⟨⟨none,rfl⟩,rfl,rfl⟩ (fun i ys σ' H' _ ⟨_,e,_⟩=>by rw [e];exact bD.of e2) ?_ ?_
   ·rintro i x ys σ' H' hx ⟨⟨v,rfl⟩,rfl,rfl⟩ N hN
    obtain ⟨j,rfl,up⟩:∃ j:gC,x=jV j/\([y,n].take (i+1)).flatMap jl=([y,n].take i).flatMap jl++jl j:=by
     match i,hx with
     |0,hx=>exact ⟨y,(Option.some.inj hx).symm,by simp⟩
     |1,hx=>exact ⟨n,(Option.some.inj hx).symm,by simp⟩
     |i+2,hx=>simp at hx
    dsimp only [bG,List.set]
    refine ⟨_,rfl,lM j,zj j,_,rfl,?_⟩
    cases j with
    |inl b=>exact bJ rfl (hN _ _ _ ⟨⟨_,rfl⟩,rfl,by rw [up];simp [jl]⟩ (by lia))
    |inr m=>exact b_ rfl ⟨_,rfl,hN _ _ _ ⟨⟨_,rfl⟩,rfl,by rw [up];simp [jl,nV];rfl⟩ (by simp)⟩
   rintro ys σ' H' hy ⟨⟨v,rfl⟩,rfl,rfl⟩
   have hy:(nV (jl y++jl n)).length≤2:=by simpa using hy
   rw [show ([y,n].take [jV y,jV n].length).flatMap jl=jl y++jl n by simp]
   refine ⟨Nat.le_trans hy (by decide),fun q hq=>?_⟩
   have s3:=s2.trans (aC.new (o:=.lst (nV (jl y++jl n))) hq)
   have e3:=s3 _ _ hq1
   have l1:(nV R).length=R.length:=List.length_map ..
   have l2:(nV (jl y++jl n)).length=(jl y++jl n).length:=List.length_map ..
   refine ⟨qs,q,nV R,_,rfl,rfl,e3,au,by lia,?_⟩
   refine ⟨R++(jl y++jl n),_,_,_,_,rfl,by rw [au];simp [nV],by rw [List.length_append];lia,List.mem_append_left _ r0,mm _ rfl,fun b o e=>?_⟩
   rw [aX (n0 b o e)]
   exact s3 _ _ (s1 _ _ e)
 ·rintro σ' H1 ⟨R,u4,u5,u6,u7,rfl,hq1,rl,r0,cl,s1⟩
  dsimp only [bG,List.set]
  refine ⟨_,rfl,lw,rfl,⟨_,bF.of (s1 _ _ hl)⟩,?_⟩
  refine lZ (K:=K) (a:=lw) (xs:=ws) (fun i ys σ' H'=>(∃ v,σ'=[v])/\H'=H1/\ys=((W.take i).map fun r=>(jN r).shown).map V.str) (by lia) ⟨⟨none,rfl⟩,rfl,rfl⟩ (fun i ys σ' H' _ ⟨_,e,_⟩=>by rw [e];exact bF.of (s1 _ _ hl)) ?_ ?_
  ·rintro i x ys σ' H' hx hys ⟨⟨v,rfl⟩,rfl,rfl⟩ N hN
   obtain ⟨d,hd,rx⟩:=(rs.same s1).get' hx
   rw [List.getElem?_map] at hd
   obtain ⟨r,hir,rfl⟩:=Option.map_eq_some_iff.mp hd
   obtain ⟨l1,a1,a2⟩:=cz wo hir
   obtain ⟨c,x0,rfl,sq,r1⟩:=jU rx
   dsimp only [bG,List.set]
   exact ⟨_,rfl,_,jN r,rfl,rfl,rx,zT wl l1 a1 a2,hN _ _ _ (by rw [List.length_append,hys];rfl) ⟨⟨_,rfl⟩,rfl,by rw [List.take_add_one,hir];simp⟩⟩
  rintro zs σ' H' hzs ⟨⟨v,rfl⟩,rfl,rfl⟩
  rw [xl,List.take_length] at hzs ⊢
  generalize hN:(W.map fun r=>(jN r).shown)=ns at hzs
  have nd:=tR le wl
  rw [hN] at nd
  have nl:ns.length=W.length:=by rw [← hN,List.length_map]
  refine ⟨by rw [List.length_map];lia,fun q8 hq8=>?_⟩
  have s2:=aC.new (o:=.lst (ns.map V.str)) hq8
  have e8:upd H' q8 (.lst (ns.map V.str)) q8=some (.lst (ns.map V.str)):=au
  generalize upd H' q8 (.lst (ns.map V.str))=H2 at s2 e8 ⊢
  dsimp only [bG,List.set]
  refine ⟨_,rfl,q8,ns,rfl,bF.of e8,by lia,fun a n ha hn=>?_⟩
  have s3:=aC.new (o:=BZ P w a n) ha
  refine ⟨a,n,rfl,au,_,rfl,q8,_,rfl,.inl (bF.of (s3 _ _ e8)),rfl,?_⟩
  have en:n=ns.length:=by
   rcases hn with h|h
   ·exact h.2
   ·exact absurd nd h.1
  rw [show decide (V.int (n:Nat)=V.int ((ns.map V.str).length:Nat))=true by rw [List.length_map,en];exact decide_eq_true rfl]
  exact k _ ((s1.trans s2).trans s3)
theorem zm (h:k_ d):Bw 2 1 d:=by
 obtain ⟨f,r,rfl,lf,na⟩:=h
 cases lf with
 |all=>exact absurd rfl na
 | @is x h=>
   have nm:=(cQ x).mp h
   exact .node (by unfold ie;decide +kernel) (by ext) (by simp) fun d hd=>by
    simp at hd
    subst hd
    exact .str (lU nm) (by have:=nm.hi;lia)
 | @num _ x i hf h hi=>
   have nm:=(cQ x).mp h
   unfold mQ at hi
   simp at hi
   refine .node (by rcases hf with rfl|rfl <;> (unfold ie;decide +kernel)) (by rcases hf with rfl|rfl <;> decide +kernel) (by simp) fun d hd=>?_
   simp at hd
   have:(1000000:Int)≤qX:=by decide
   rcases hd with rfl|rfl
   ·exact .str (lU nm) (by have:=nm.hi;lia)
   ·exact .int (by lia) (by lia)
theorem qT (wo:eO st W):∀ r∈W.map oY,Bw 2 1 r.1:=fun r hr=>by
 obtain ⟨q,hq,rfl⟩:=List.mem_map.mp hr
 obtain ⟨i,hi⟩:=List.getElem?_of_mem hq
 exact zm (cz wo hi).1
theorem Dj {k n:Nat} {W:List WZ} (hk:k≤4) (hn:n≤8) (h:∀ r∈W,Bw k n r.1):∀ r∈W,TD r.1/\bI r.1≤8:=fun r hr=>⟨(h r hr).td hk,Nat.le_trans (h r hr).dp hn⟩
theorem Hb (h:Bw k n e):gq e≤k+1:=by
 induction h with
 |str=>simp [gq]
 |int=>simp [gq]
 |nil=>simp [gq,eV]
 | @node n f r _ _ hr ha ih=>
   have:eV r≤k+1:=by
    clear hr ha
    induction r with
    |nil=>simp [eV]
    | cons d r h=>
      have h1:=ih d (List.mem_cons_self ..)
      have h2:=h (fun d hd=>ih d (List.mem_cons_of_mem _ hd))
      simp only [eV]
      lia
   simp only [gq,eV,List.length_cons]
   lia
theorem pK (wo:eO st W) (wl:W.length≤100):bI (.tuple [jD st,.list (W.map jN)])≤4/\gq (.tuple [jD st,.list (W.map jN)])≤100000:=by
 have all:∀ r∈W,Bw 2 1 r.1:=fun r hr=>qT wo (oY r) (List.mem_map_of_mem hr)
 have js:∀ j:gC,bI (jD j)=0/\gq (jD j)=0:=fun j=>by cases j <;> exact ⟨rfl,rfl⟩
 have h:bB (W.map jN)≤2/\eV (W.map jN)≤3:=by
  clear wo wl
  induction W with
  |nil=>exact ⟨by simp [bB],by simp [eV]⟩
  | cons r W ih=>
    have h1:=ih fun q hq=>all q (List.mem_cons_of_mem _ hq)
    have h2:=(all r (List.mem_cons_self ..)).dp
    have h3:=Hb (all r (List.mem_cons_self ..))
    simp only [List.map_cons,bB,eV,jN,bI,gq,js,List.length_cons,List.length_nil]
    lia
 simp only [bB,eV,bI,gq,js,List.length_cons,List.length_nil,List.length_map]
 lia
theorem gY.but (h:gY C H o n a fs) (D:Dr H p dc) (b:bW p H H'):gY C H' o n a fs:=by
 obtain ⟨⟨dx,ho⟩,xs,ha,pf⟩:=h
 exact ⟨⟨dx,b _ _ ho (D.ne ho (by intro _ z;cases z))⟩,xs,b _ _ ha (D.ne ha (by intro _ z;cases z)),eQ pf fun q ys e=>b _ _ e (D.ne e (by intro _ z;cases z))⟩
theorem K5 (wo:eO st W) (pz:PyData->Bool):∃ b n,Wn pz W st b n:=by
 rcases id wo with ⟨b,rfl,_⟩|⟨rfl,pos,_⟩
 ·exact ⟨b,0,.fin⟩
 ·have hr:=dD pos
  obtain ⟨_,j1,j2⟩:=cz wo hr
  obtain ⟨b,n,h,_⟩:=yO wo pz W.length 0 (if pz (cg W 0).1=true then (cg W 0).2.1 else (cg W 0).2.2) (by lia) (by split;exact j1;exact j2)
  exact ⟨b,n+1,.row hr h⟩
noncomputable def FA (H:Hp) (a:Addr) (fs:List jM):Prop:=∃ xs,H a=some (.tup xs)/\Paired (fj H) xs fs
theorem FA.tk (h:FA H a fs) (k:TK H H'):FA H' a fs:=let ⟨xs,h1,h2⟩:=h;⟨xs,k _ _ h1,eQ h2 k⟩
theorem FA.sm (h:FA H a fs) (s:aC H H'):FA H' a fs:=h.tk fun _ _ e=>s _ _ e
theorem jR (h:∀ N:St->Hp->Prop,(∀ σ' H',u D σ' H'->N σ' H')->t { D with nx:=N } σ H):Hz t u D σ H:=h _ fun _ _ x=>x
theorem Eg {t:TS} {D:Ends} (h:∀ D':Ends,(∀ σ' H',D.nx σ' H'->D'.nx σ' H')->t D' σ H):t D σ H:=h D fun _ _ x=>x
theorem c1 (e:σ[i]?=some (some x)) (h:sp [x] H Q E):mz sp [] E (ig (kh i) uH) σ H Q:=⟨x,e,h⟩
theorem Q5 (e:σ[i]?=some (some x)) (h:sq [x] H (fun y H'=>sp [y] H' Q E) E'):mz sp [] E (ig (mz sq [] E' (ig (kh i) uH)) uH) σ H Q:=⟨x,e,h⟩
theorem c3 (e:σ[i]?=some (some x)) (e':σ[j]?=some (some y)) (f:σ[k]?=some (some z)) (h:sp [x,y,z] H Q E):mz sp [] E (ig (kh i) (ig (kh j) (ig (kh k) uH))) σ H Q:=⟨x,e,y,e',z,f,h⟩
theorem c4 (e:σ[i]?=some (some x)) (e':σ[j]?=some (some y)) (f:σ[k]?=some (some z)) (g:σ[l]?=some (some u)) (h:sp [x,y,z,u] H Q E):mz sp [] E (ig (kh i) (ig (kh j) (ig (kh k) (ig (kh l) uH)))) σ H Q:=⟨x,e,y,e',z,f,u,g,h⟩
theorem cX.but (h:cX K H p lw st W) (D:Dr H q dc) (b:bW q H H'):cX K H' p lw st W:=
 let ⟨hp,⟨ws,hl,rs⟩,wo⟩:=h
 ⟨b _ _ hp (D.ne hp (by intro _ z;cases z)),⟨ws,b _ _ hl (D.ne hl (by intro _ z;cases z)),D.reps b rs⟩,wo⟩
theorem cX.rep (h:cX K H p lw st W):Rep K H (.ref p) (.tuple [jD st,.list (W.map jN)]):=
 let ⟨hp,⟨_,hl,rs⟩,_⟩:=h
 .tup (bD.of hp) (.cons (Ex _ _ _) (.cons (.lst (bF.of hl) rs) .nil))
theorem J6 (h:zW K C H p lw o a b st W nm fs zs v m) (k:∀ H',aC H H'->Q (.bl v) H'):zy K C [.ref p,.ref o,.ref b] H Q E:=⟨p,lw,o,a,b,st,W,nm,fs,zs,v,m,rfl,h,k⟩
theorem KZ (h:zW K C H p lw o a b st W nm fs zs v m) (k:∀ H',aC H H'->Q (.int (m:Nat)) H'):Gq K C [.ref p,.ref o,.ref b] H Q E:=⟨p,lw,o,a,b,st,W,nm,fs,zs,v,m,rfl,h,k⟩
theorem Ep (h:JR K H p lw a b st W nm fs zs v m) (k:∀ q H',H' q=some (.tup [.bl v,.int (m:Nat)])->aC H H'->Q (.ref q) H'):Fq K [.ref p,.str nm,.ref a,.ref b] H Q E:=⟨p,lw,a,b,st,W,nm,fs,zs,v,m,rfl,h,k⟩
theorem Ld (h:cX K H p lw st W) (k:∀ p' lw' H',H lw'=none->cX K H' p' lw' st W->aC H H'->Q (.ref p') H'):Gb K [.ref p] H Q E:=⟨p,lw,st,W,rfl,h,k⟩
theorem Lz (h:cX K H p lw st W) (l:W.length≤100) (k:∀ p' lw' H',H lw'=none->cX K H' p' lw' (xQ st W).1 (xQ st W).2->aC H H'->Q (.ref p') H'):Gp K [.ref p] H Q E:=⟨p,lw,st,W,rfl,h,l,k⟩
theorem Dz (h:oO K H p lw st W) (l:W.length≤100) (d:∀ r∈W,TD r.1/\bI r.1≤8) (k:∀ b H',(b=true↔Ie st W)->aC H H'->Q (.bl b) H'):Gk K [.ref p] H Q E:=⟨p,lw,st,W,rfl,h,l,d,k⟩
theorem Iv (h:cX K H p lw st W) (l:W.length≤100) (le:Lean st W) (k:∀ H',aC H H'->Q (.bl true) H'):Hv K [.ref p] H Q E:=⟨p,lw,st,W,rfl,h,l,le,k⟩
noncomputable abbrev Nx:List Str:=["_law_script","_law_d","_law_turn","_law_title","_law_fields_here","_law_way","_law_bent","_law_short","_law_sort","_law_step","_law_test_here","_law_values"]
theorem iD:aU Nx ["_law_script"] (aD (top 84)):=by ext
noncomputable def zf (K:PySem.W.Frag):Sp:=fun vs H Q _=>∃ (a:Addr) (ns:List Int),vs=[.ref a]/\bF K H a (ns.map V.int)/\ns.length≤63/\∀ H',Q (.bl true) H'
theorem Gz {f fB fP fS fKo fSw fBw fWo fSh fKw fLz fNv fR fSt fWd fKI C:Addr} {fd fdB fdP fdS fdKo fdSw fdBw fdWo fdSh fdKw fdLz fdNv fdR fdSt fdWd fdKI:FuncData} (F:fc K "law" "law" (top 84) f fd) (T:Txt K mg) (KC:KCls K mg C)
 (DB:cj K mg "_law_begin" (top 50) ["_law_script"] fB fdB) (DP:cj K mg "_law_pick" (top 51) ["_law_d","_law_many"] fP fdP) (DS:cj K mg "_law_same" (top 54) ["_law_found","_law_due"] fS fdS)
 (DKo:cj K mg "_law_kind_of" (top 73) ["_law_d"] fKo fdKo) (GKo:aQ P w K mg base bC 6 fKo fdKo ["_law_d"] J_)
 (DSw:cj K mg "_law_some_way" (top 81) ["_law_d","_law_title","_law_fields_here"] fSw fdSw) (GSw:aQ P w K mg base bC 13 fSw fdSw ["_law_d","_law_title","_law_fields_here"] (LK K))
 (DBw:cj K mg "_law_bent_way" (top 79) ["_law_d","_law_way"] fBw fdBw) (GB1:aQ P w K mg base bC 6 fBw fdBw ["_law_d","_law_way"] (Gg K 2 1)) (GB2:aQ P w K mg base bC 7 fBw fdBw ["_law_d","_law_way"] (Gg K 3 2))
 (DWo:cj K mg "_law_way_ok" (top 78) ["_law_way"] fWo fdWo) (GWo:aQ P w K mg base bC 13 fWo fdWo ["_law_way"] (Gk K))
 (DSh:cj K mg "shorter" (top 47) ["way"] fSh fdSh) (GSh:aQ P w K mg base bC 8 fSh fdSh ["way"] (Gp K)) (DKw:cj K mg "_law_kept_way" (top 82) ["_law_way"] fKw fdKw) (GKw:aQ P w K mg base bC 1 fKw fdKw ["_law_way"] (Gb K))
 (DLz:cj K mg "_law_lean" (top 83) ["_law_way"] fLz fdLz) (GLz:aQ P w K mg base bC 2 fLz fdLz ["_law_way"] (Hv K)) (DNv:cj K mg "_law_near_values" (top 75) Mq fNv fdNv) (GNv:aQ P w K mg base bC 8 fNv fdNv Mq (Do K))
 (DR:cj K mg "run" (top 44) ["way","kind","values"] fR fdR) (GR:aQ P w K mg base bC 9 fR fdR ["way","kind","values"] (zy K C)) (DSt:cj K mg "steps" (top 45) ["way","kind","values"] fSt fdSt) (GSt:aQ P w K mg base bC 9 fSt fdSt ["way","kind","values"] (Gq K C))
 (DWd:cj K mg "_law_walked" (top 80) Mx fWd fdWd) (GWd:aQ P w K mg base bC 6 fWd fdWd Mx (Fq K))
 (MkK:Mk K C fKI) (GKI:aQ P w K mg base bC 4 fKI fdKI ["self","name","fields"] (zO C)) (bKI:Binds K fdKI ["self","name","fields"] []) :
 aQ P w K mg base bC 14 f fd ["_law_script"] (zf K):=by
 have GB:aQ P w K mg base bC 1 fB fdB ["_law_script"] (uO K):=ym DB.F T
 have GP:aQ P w K mg base bC 1 fP fdP ["_law_d","_law_many"] d_:=dw DP.F T
 have GS:aQ P w K mg base bC 5 fS fdS ["_law_found","_law_due"] (spS K 5):=BJ DS T 5
 refine F.ok iD (by ext) fun cdv A outer s H vs Q E hr h=>?_
 obtain ⟨sa,ns,rfl,hS,hlen,k⟩:=h
 have hr1:bR 1 _:=hr.mono (show 1≤13 by decide)
 have hr2:bR 2 _:=hr.mono (show 2≤13 by decide)
 have hr5:bR 5 _:=hr.mono (show 5≤13 by decide)
 have hr6:bR 6 _:=hr.mono (show 6≤13 by decide)
 have hr7:bR 7 _:=hr.mono (show 7≤13 by decide)
 have hr8:bR 8 _:=hr.mono (show 8≤13 by decide)
 have hr9:bR 9 _:=hr.mono (show 9≤13 by decide)
 refine ⟨_,(ak (bc (i:=1) iD.nd rfl (.inl rfl) (bO DB GB hr1 (aa (pv 0) aj)))
  (ak (dH PassesOwn.never rfl (dG rfl T.range (aa aA aj)) (aK (i:=2) iD.nd rfl (.inl rfl))
   (ak (cM (bO DKo GKo hr6 (aa (pv 1) aj)) (cD rfl (aP (aK (i:=3) iD.nd rfl (.inl rfl)) (aP (aK (i:=4) iD.nd rfl (.inl rfl)) bY))))
   (ak (bc (i:=5) iD.nd rfl (.inl rfl) (bO DSw GSw hr (aa (pv 1) (aa (pv 3) (aa (pv 4) aj)))))
   (ak (bc (i:=6) iD.nd rfl (.inl rfl) (bO DBw GB2 hr7 (aa (pv 1) (aa (bO DBw GB1 hr6 (aa (pv 1) (aa (pv 5) aj))) aj))))
   (ak (a_ (bU (bO DWo GWo hr (aa (pv 6) aj))) (aB (bc (i:=5) iD.nd rfl (.inl rfl) (pv 6))) aL)
   (ak (bc (i:=7) iD.nd rfl (.inl rfl) (bO DSh GSh hr8 (aa (bO DKw GKw hr1 (aa (pv 5) aj)) aj)))
   (ak (a_ (PW.pt (gJ (cN (bU (bO DWo GWo hr (aa (pv 7) aj)))) (gJ (aH nW (aG aO (by rfl) T.len bH (aa (aZ aY (pv 7) aA (fun _ _=>rfl)) aj)) (aG aO (by rfl) T.len bH (aa (aZ aY (pv 5) aA (fun _ _=>rfl)) aj)) (aN _)) (fJ (cN (bU (bO DLz GLz hr2 (aa (pv 7) aj)))))))) (aB d9) aL)
   (ak (a_ (cN (bU (bO DS GS hr5 (aa (bO DSh GSh hr8 (aa (bO DKw GKw hr1 (aa (pv 7) aj)) aj)) (aa (pv 7) aj))))) (aB d9) aL)
   (ak (bc (i:=8) iD.nd rfl (.inl rfl) (CG (E:=E0) MkK GKI hr5 rfl KC.mg bKI .nil lC (aa (pv 3) (aa (pv 4) aj))))
   (ak (dH PassesOwn.never rfl (dG rfl T.range (aa aA aj)) (aK (i:=9) iD.nd rfl (.inl rfl))
    (ak (bc (i:=10) iD.nd rfl (.inl rfl) (eN (aH (lO hr.units) (aZ aY (pv 5) aA (fun _ _=>rfl)) (bM aj) (aN _)) (bu (aa aM aj)) (aZ aY (aZ cF (aZ aY (pv 5) aA (fun _ _=>rfl)) (bO DP GP hr1 (aa (pv 1) (aa (aG aO (by rfl) T.len bH (aa (aZ aY (pv 5) aA (fun _ _=>rfl)) aj)) aj))) (fun _ _=>rfl)) aA (fun _ _=>rfl))))
    (ak (bc (i:=11) iD.nd rfl (.inl rfl) (bO DNv GNv hr8 (aa (pv 1) (aa (pv 10) (aa (pv 4) aj)))))
    (ak (a_ (cN (bU (bO DS GS hr5 (aa (bO DR GR hr9 (aa (pv 7) (aa (pv 8) (aa (pv 11) aj)))) (aa (aZ aY (bO DWd GWd hr6 (aa (pv 5) (aa (pv 3) (aa (pv 4) (aa (pv 11) aj))))) aA (fun _ _=>rfl)) aj))))) (aB d9) aL)
    (aB (a_ (aH nW (bO DSt GSt hr9 (aa (pv 7) (aa (pv 8) (aa (pv 11) aj)))) (aZ aY (bO DWd GWd hr6 (aa (pv 5) (aa (pv 3) (aa (pv 4) (aa (pv 11) aj))))) aA (fun _ _=>rfl)) (aN _)) (aB d9) aL))))))
   (ak (cJ (h_ PySem.F.plainAttrs_list PySem.F.slot_list_append PySem.F.type_list_append eZ (aZ aY (pv 7) aA (fun _ _=>rfl)) (aa aA aj)))
   (aB (a_ (cN (bU (bO DLz GLz hr2 (aa (bO DSh GSh hr8 (aa (bO DKw GKw hr1 (aa (pv 5) aj)) aj)) aj)))) (aB d9) aL)))))))))))))
  (aB (aJ cY)))),?_⟩
 refine ⟨_,rfl,sa,ns,rfl,hS,hlen,fun p dc H1 D1 s0 _=>?_⟩
 dsimp only [bG,List.set,L2.start]
 have big:100000≤sizeLine:=by decide
 refine ⟨_,rfl,by decide,by decide,fZ (lo:=0) (fun _ σ' H'=>(∃ u2 u3 u4 u5 u6 u7 u8 u9 u10 u11,σ'=[some (.ref sa),some (.ref p),u2,u3,u4,u5,u6,u7,u8,u9,u10,u11])/\Dr H' p dc) ⟨⟨_,_,_,_,_,_,_,_,_,_,rfl⟩,D1⟩ ?_ ?_⟩
 case refine_2=>exact fun σ' H' _=>k _
 rintro i σ' H2 hi ⟨⟨u2,u3,u4,u5,u6,u7,u8,u9,u10,u11,rfl⟩,D2⟩
 dsimp only [bG,List.set]
 refine Eg fun DD hD=>jR fun N1 h1=>⟨_,rfl,p,dc,rfl,D2,fun t a nm xs fs H3 ht hnm ha pf fl fo nd D3 b3=>⟨t,_,rfl,bD.of ht,rfl,_,_,rfl,_,_,rfl,rfl,h1 _ _ ?_⟩⟩
 clear h1 N1
 dsimp only [bG,List.set]
 have fa3:FA H3 a fs:=⟨xs,ha,pf⟩
 refine jR fun N1 h1=>⟨_,rfl,_,rfl,_,rfl,p,dc,a,nm,xs,fs,rfl,D3,hnm,ha,pf,fl,fo,fun pw lw st W H4 wa4 wl D4 b4=>?_⟩
 have fa4:=fa3.tk (TK.but D3 b4)
 refine h1 _ _ ?_
 clear h1 N1
 dsimp only [bG,List.set]
 refine jR fun N1 h1=>⟨_,rfl,_,rfl,_,rfl,p,dc,pw,lw,lM st,W.map oY,rfl,D4,wa4.z,qT wa4.ok,by rw [List.length_map];lia,fun pb lb sb B H5 wz5 bw5 bl5 D5 b5=>⟨p,dc,pb,lb,sb,B,rfl,D5,wz5,bw5,by rw [List.length_map] at bl5;lia,fun pc lc sc Z H6 wz6 bw6 cl6 D6 b6=>?_⟩⟩
 have wa6:=(wa4.but D4 b5).but D5 b6
 have fa6:=(fa4.tk (TK.but D4 b5)).tk (TK.but D5 b6)
 rw [List.length_map] at bl5
 clear D1 D2 D3 b3 b4 fa3 fa4 wa4 D4 b5 wz5 bw5 ha pf ht s0 hS D5 b6
 refine h1 _ _ ?_
 clear h1 N1
 dsimp only [bG,List.set]
 refine eU (fun σ' H'=>∃ pw lw st W,σ'=[some (.ref sa),some (.ref p),some (.int (0+i)),some (.str nm),some (.ref a),some (.ref pw),some (.ref pc),u7,u8,u9,u10,u11]/\cX K H' pw lw st W/\W.length≤50/\FA H' a fs/\Dr H' p dc) ?nx1 fun N hN=>?st1
 case st1=>
  refine c1 rfl (Dz wz6 (by lia) (Dj (by decide) (by decide) bw6) fun b H7 hb s7=>⟨_,rfl,dC (fun z=>?_) (fun z=>?_)⟩)
  ·obtain ⟨st',W',rfl,rfl,wo⟩:=hb.mp z
   rw [List.length_map] at cl6
   exact ⟨_,rfl,hN _ _ ⟨pc,lc,st',W',rfl,(wz6.same s7).at wo,by lia,fa6.sm s7,D6.mono s7⟩⟩
  ·exact hN _ _ ⟨pw,lw,st,W,rfl,wa6.same s7,by lia,fa6.sm s7,D6.mono s7⟩
 clear wa6 fa6 D6 wz6 bw6 cl6 bl5 wl
 rintro σ' H7 ⟨pw,lw,st,W,rfl,wa,wl,fa7,D7⟩
 refine jR fun N1 h1=>Q5 rfl (Ld wa fun pk lk H8 _ wk8 s8=>Lz wk8 (by lia) fun ps ls H9 hls ws9 s9=>?_)
 have S9:=s8.trans s9
 have nls:=s8.free hls
 have le:=uU wa.ok
 have ll:=xV wa.ok
 have wn:=fun pz b n=>Jj wa.ok (pz:=pz) (b:=b) (n:=n)
 generalize xQ st W=q at ws9 le ll wn
 obtain ⟨st2,W2⟩:=q
 dsimp only at ws9 le ll wn
 clear s8 wk8 hls s9
 refine h1 _ _ ?_
 clear h1 N1
 dsimp only [bG,List.set]
 refine jR fun N1 h1=>c1 rfl (Dz ws9.z (by rw [List.length_map];lia) (Dj (by decide) (by decide) (qT le.wo)) fun b H10 hb s10=>?_)
 cases hb.mpr ⟨st2,W2,rfl,rfl,le.wo⟩
 refine ⟨_,rfl,bJ rfl ?_⟩
 have S10:=S9.trans s10
 have wa10:=wa.same S10
 have ws10:=ws9.same s10
 obtain ⟨hp5,⟨ws5,hl5,rs5⟩,_⟩:=id wa10
 obtain ⟨hp7,⟨ws7,hl7,rs7⟩,_⟩:=id ws10
 have x5:=rs5.length
 have x7:=rs7.length
 rw [List.length_map] at x5 x7
 refine ⟨_,rfl,ps,_,_,_,rfl,rfl,bD.of hp7,aF (j:=1) rfl,ls,ws7,rfl,.inl (bF.of hl7),_,rfl,pw,_,_,_,rfl,rfl,bD.of hp5,aF (j:=1) rfl,lw,ws5,rfl,.inl (bF.of hl5),_,_,rfl,rfl,_,rfl,bJ (by simp;lia) ?_⟩
 refine c1 rfl (Iv ws10 (by lia) le fun H11 s11=>⟨_,rfl,bJ rfl (h1 _ _ ?_)⟩)
 have ws11:=ws10.same s11
 clear h1 N1
 refine jR fun N1 h1=>⟨_,rfl,ps,ls,st2,W2,rfl,ws11,fun pk2 lk2 H12 _ wk12 s12=>⟨pk2,lk2,st2,W2,rfl,wk12,by lia,fun pt lt H13 _ wt13 s13=>⟨_,rfl,?_⟩⟩⟩
 rw [Gu le] at wt13
 have s13:=s12.trans s13
 obtain ⟨sm1,sm2⟩:=pK le.wo (by lia)
 refine ⟨_,_,_,rfl,wt13.rep,(ws11.same s13).rep,sm1,sm2,fun H14 s14=>⟨_,rfl,bJ rfl (h1 _ _ ?_)⟩⟩
 clear h1 N1
 have S14:=(S10.trans s11).trans (s13.trans s14)
 have ws14:=ws11.same (s13.trans s14)
 have fa14:=fa7.sm S14
 clear wt13 wk12 ws11 ws10 wa10 ws9 s10 s11 s12 s13 s14 S9 S10 hp5 hl5 rs5 x5 hp7 hl7 rs7 x7 ws5 ws7 sm1 sm2
 obtain ⟨xsf,haf,pff⟩:=id fa14
 refine jR fun N1 h1=>⟨_,rfl,_,rfl,fun o dx ho hdx ndx=>?_⟩
 have s15:aC H14 (upd (upd H14 dx (.own o)) o (.ins C dx [])):=fun b u e=>by
  rw [aX (aR e ho),aX (aR e hdx)];exact e
 refine ⟨o,dx,a,nm,xsf,fs,rfl,au,hnm,s15 _ _ haf,eQ pff fun _ _ e=>s15 _ _ e,fl,fo,nd,fun H16 ka16 kp=>⟨rfl,?_⟩⟩
 have s16:aC H14 H16:=fun b u e=>kp b u (s15 _ _ e) (aR e ho)
 have S16:=S14.trans s16
 have ws16:=ws14.same s16
 have wa16:=wa.same S16
 have fa16:=fa7.sm S16
 have D16:=D7.mono S16
 refine h1 _ _ ?_
 clear kp s15 s16 S14 ws14 fa14 ho hdx ndx haf pff xsf h1 N1
 dsimp only [bG,List.set]
 refine eU (fun σ' H'=>(∃ u9 u10 u11,σ'=[some (.ref sa),some (.ref p),some (.int (0+i)),some (.str nm),some (.ref a),some (.ref pw),some (.ref pc),some (.ref ps),some (.ref o),u9,u10,u11])/\bW p H16 H'/\Dr H' p dc) ?nx2 fun N hN=>?st2
 case st2=>
  refine ⟨_,rfl,by decide,by decide,fZ (lo:=0) (fun _ σ' H'=>(∃ u9 u10 u11,σ'=[some (.ref sa),some (.ref p),some (.int (0+i)),some (.str nm),some (.ref a),some (.ref pw),some (.ref pc),some (.ref ps),some (.ref o),u9,u10,u11])/\bW p H16 H'/\Dr H' p dc) ⟨⟨_,_,_,rfl⟩,bW.refl,D16⟩ ?_ fun σ' H' h=>hN _ _ h⟩
  rintro j σ' H17 hj ⟨⟨u9,u10,u11,rfl⟩,b17,D17⟩
  dsimp only [bG,List.set]
  refine Eg fun DE hE=>?_
  refine eU (fun σ' H'=>∃ q ds,σ'=[some (.ref sa),some (.ref p),some (.int (0+i)),some (.str nm),some (.ref a),some (.ref pw),some (.ref pc),some (.ref ps),some (.ref o),some (.int (0+j)),some (.ref q),u11]/\Rep K H' (.ref q) (.tuple ds)/\TD (.tuple ds)/\bI (.tuple ds)≤7/\bW p H16 H'/\Dr H' p dc) ?nx3 fun N3 hN3=>?st3
  case st3=>
   obtain ⟨hp5,⟨ws5,hl5,rs5⟩,wo5⟩:=wa16.but D16 b17
   have x5:=rs5.length
   rw [List.length_map] at x5
   refine ⟨_,rfl,pw,_,_,_,rfl,rfl,bD.of hp5,aF (j:=1) rfl,(by ext),fun q hq=>?_⟩
   have s1:=aC.new (o:=.lst []) hq
   have e1:upd H17 q (.lst []) q=some (.lst []):=au
   have D1':=D17.mono s1
   have b1':=b17.trans s1.but
   generalize upd H17 q (.lst [])=H18 at s1 e1 D1' b1' ⊢
   refine ⟨.list (W.map jN),.list [],.lst (bF.of (s1 _ _ hl5)) (rs5.same s1),.lst (bF.of e1) .nil,?_,_,rfl,?_⟩
   ·have:=(pK wo5 (by lia)).1
    simp only [bI,bB] at this ⊢
    lia
   by_cases hW:W=[]
   ·subst hW
    refine b_ rfl ⟨(by ext),fun t ht=>hN3 _ _ ⟨t,[.str "all"],rfl,.tup (bD.of au) (.cons (.str _) .nil),(lX (k:=2) (n:=0)).td (by decide),Nat.le_trans (lX (k:=2) (n:=0)).dp (by decide),b1'.trans (aC.new ht).but,D1'.new ht⟩⟩
   have pos:0<W.length:=List.length_pos_iff.mpr hW
   refine bJ ?_ ?_
   ·cases W with
    |nil=>exact absurd rfl hW
    |cons r t=>rfl
   refine ⟨_,rfl,pw,_,_,_,rfl,rfl,bD.of (s1 _ _ hp5),aF (j:=1) rfl,_,rfl,_,rfl,pw,_,_,_,rfl,rfl,bD.of (s1 _ _ hp5),aF (j:=1) rfl,lw,ws5,rfl,.inl (bF.of (s1 _ _ hl5)),p,dc,_,rfl,D1',by lia,by lia,fun m H19 m0 m1 D19 b19=>?_⟩
   obtain ⟨m,rfl⟩:∃ m':Nat,m=m':=⟨m.toNat,by lia⟩
   have hir:W[m]?=some W[m]:=List.getElem?_eq_getElem (by lia)
   have lf:=(cz wo5 hir).1
   have hl9:=b19 _ _ (s1 _ _ hl5) (D1'.ne (s1 _ _ hl5) (by intro _ z;cases z))
   obtain ⟨x,hx,rx⟩:=(D1'.reps b19 (rs5.same s1)).get (i:=m) (d:=jN W[m]) (by rw [List.getElem?_map,hir];rfl)
   have bw:=zm lf
   generalize W[m]=r at lf rx bw
   obtain ⟨c,x0,rfl,sq,r1⟩:=jU rx
   obtain ⟨f',r',er,_,_⟩:=lf
   rw [er] at r1 bw
   cases r1 with
   |@tup q' us _ sq' rs'=>
   exact ⟨lw,_,_,_,rfl,rfl,bF.of hl9,aF hx,c,_,_,_,rfl,rfl,sq,aF (j:=0) rfl,hN3 _ _ ⟨q',_,rfl,.tup sq' rs',bw.td (by decide),Nat.le_trans bw.dp (by decide),b1'.trans b19,D19⟩⟩
  rintro σ' H18 ⟨q,ds,rfl,rq,tq,dq,b18,D18⟩
  obtain ⟨xs8,ha8,pf8⟩:=fa16.tk (TK.but D16 b18)
  refine jR fun N1 h1=>⟨_,rfl,_,rfl,_,rfl,p,dc,q,a,ds,xs8,fs,rfl,D18,rq,tq,dq,ha8,pf8,fl,fo,fun b zs H19 hb zl bx D19 b19 _=>?_⟩
  have b19:=b18.trans b19
  have wa19:=wa16.but D16 b19
  have ws19:=ws16.but D16 b19
  have ka19:=ka16.but D16 b19
  have fa19:=fa16.tk (TK.but D16 b19)
  clear rq tq dq b18 D18 ha8 pf8 b17 D17
  obtain ⟨v,m,wv⟩:=K5 wa.ok (qO nm fs zs)
  obtain ⟨m2,hm2,wv2⟩:=wn _ _ _ wv
  refine h1 _ _ ?_
  clear h1 N1
  dsimp only [bG,List.set]
  refine jR fun N1 h1=>c3 rfl rfl rfl (J6 ⟨ws19,by lia,ka19,fl,hb,bx,wv2⟩ fun H20 s20=>c4 rfl rfl rfl rfl (Ep ⟨wa19.same s20,by lia,fa19.sm s20,fl,s20 _ _ hb,zl,wv⟩ fun q1 H21 hq1 s21=>⟨q1,_,_,_,rfl,rfl,bD.of hq1,aF (j:=0) rfl,?_⟩))
  refine ⟨_,_,.bool v,rfl,.bl v,.bl v,by simp [bI],by simp [gq],fun H22 s22=>⟨_,rfl,bJ rfl (h1 _ _ ?_)⟩⟩
  clear h1 N1
  have S22:=s20.trans (s21.trans s22)
  refine c3 rfl rfl rfl (KZ ⟨ws19.same S22,by lia,ka19.same S22,fl,S22 _ _ hb,bx,wv2⟩ fun H23 s23=>c4 rfl rfl rfl rfl (Ep ⟨wa19.same (S22.trans s23),by lia,fa19.sm (S22.trans s23),fl,(S22.trans s23) _ _ hb,zl,wv⟩ fun q2 H24 hq2 s24=>⟨q2,_,_,_,rfl,rfl,bD.of hq2,aF (j:=1) rfl,_,_,rfl,rfl,_,rfl,bJ (by simp;lia) ?_⟩))
  have S24:=(S22.trans s23).trans s24
  exact hE _ _ ⟨⟨_,_,_,rfl⟩,b19.trans S24.but,D19.mono S24⟩
 rintro σ' H17 ⟨⟨u9,u10,u11,rfl⟩,b17,D17⟩
 obtain ⟨hp7,⟨ws7,hl7,rs7⟩,_⟩:=ws16.but D16 b17
 have x7:=rs7.length
 rw [List.length_map] at x7
 refine jR fun N1 h1=>⟨_,rfl,ps,_,_,_,rfl,rfl,bD.of hp7,aF (j:=1) rfl,.inl ⟨rfl,_,bF.of hl7⟩,ls,ws7,_,rfl,rfl,hl7,by lia,?_⟩
 have b18:bW p H7 (upd H17 ls (.lst (ws7++[.int 0]))):=fun b o e hb=>by rw [aX (aR e nls)];exact b17 _ _ (S16 _ _ e) hb
 have D18:Dr (upd H17 ls (.lst (ws7++[.int 0]))) p dc:=D17.put (D7.neN nls).symm (aR D7.cell.choose_spec nls).symm
 have wa18:=wa.but D7 b18
 refine h1 _ _ ?_
 clear h1 N1
 exact ⟨_,rfl,pw,lw,st,W,rfl,wa18,fun pk3 lk3 H19 _ wk19 s19=>⟨pk3,lk3,st,W,rfl,wk19,by lia,fun pt lt H20 _ wt20 s20=>⟨pt,lt,_,_,rfl,wt20,Nat.le_trans (xV wa.ok) (by lia),uU wa.ok,fun H21 s21=>⟨_,rfl,bJ rfl (hD _ _ ⟨⟨_,_,_,_,_,_,_,_,_,_,rfl⟩,D18.mono (s19.trans (s20.trans s21))⟩)⟩⟩⟩⟩
noncomputable def bA (K:Frag) (n:Str) (i:Nat) (f:Addr):Prop:=nsIn K mainGlobals n=some (some (.ref f))/\∃ fd,fc K n n (top i) f fd
noncomputable def Ds (K:Frag) (C:Addr) (n q:Str) (st:Stmt) (f:Addr):Prop:=∃ fd,(findIn K (.ref C) n=some (some (.ref f))/\isFn K (.ref f)=true)/\fc K n q st f fd
theorem bA.d1 (H:bA K n i f) (X:K.In h) (G:h.Ns mainGlobals mg) (x0:Str) (b:∀ (kV doc pm:Value) (an:Option Addr) (cdv ct u0:Value),bindArgs (fnOf n n (fK (top i)) (dU (top i)) (aD (top i)) .none kV doc pm an cdv ct) ⟨[u0],[]⟩=pure ([x0].zip [u0])):∃ fd,cj K mg n (top i) [x0] f fd:=by
 obtain ⟨a,fd,F⟩:=H
 exact ⟨fd,F,mg_of X G a,F.binds fun _ _ _ _ _ _ us hl=>by obtain ⟨_,rfl⟩:=JQ hl;exact b _ _ _ _ _ _ _⟩
theorem bA.d2 (H:bA K n i f) (X:K.In h) (G:h.Ns mainGlobals mg) (x0 x1:Str) (b:∀ (kV doc pm:Value) (an:Option Addr) (cdv ct u0 u1:Value),bindArgs (fnOf n n (fK (top i)) (dU (top i)) (aD (top i)) .none kV doc pm an cdv ct) ⟨[u0,u1],[]⟩=pure ([x0,x1].zip [u0,u1])):∃ fd,cj K mg n (top i) [x0,x1] f fd:=by
 obtain ⟨a,fd,F⟩:=H
 exact ⟨fd,F,mg_of X G a,F.binds fun _ _ _ _ _ _ us hl=>by obtain ⟨_,_,rfl⟩:=Aw hl;exact b _ _ _ _ _ _ _ _⟩
theorem bA.d3 (H:bA K n i f) (X:K.In h) (G:h.Ns mainGlobals mg) (x0 x1 x2:Str) (b:∀ (kV doc pm:Value) (an:Option Addr) (cdv ct u0 u1 u2:Value),bindArgs (fnOf n n (fK (top i)) (dU (top i)) (aD (top i)) .none kV doc pm an cdv ct) ⟨[u0,u1,u2],[]⟩=pure ([x0,x1,x2].zip [u0,u1,u2])):∃ fd,cj K mg n (top i) [x0,x1,x2] f fd:=by
 obtain ⟨a,fd,F⟩:=H
 exact ⟨fd,F,mg_of X G a,F.binds fun _ _ _ _ _ _ us hl=>by obtain ⟨_,_,_,rfl⟩:=Jd hl;exact b _ _ _ _ _ _ _ _ _⟩
theorem bA.d4 (H:bA K n i f) (X:K.In h) (G:h.Ns mainGlobals mg) (x0 x1 x2 x3:Str) (b:∀ (kV doc pm:Value) (an:Option Addr) (cdv ct u0 u1 u2 u3:Value),bindArgs (fnOf n n (fK (top i)) (dU (top i)) (aD (top i)) .none kV doc pm an cdv ct) ⟨[u0,u1,u2,u3],[]⟩=pure ([x0,x1,x2,x3].zip [u0,u1,u2,u3])):∃ fd,cj K mg n (top i) [x0,x1,x2,x3] f fd:=by
 obtain ⟨a,fd,F⟩:=H
 exact ⟨fd,F,mg_of X G a,F.binds fun _ _ _ _ _ _ us hl=>by obtain ⟨_,_,_,_,rfl⟩:=NP hl;exact b _ _ _ _ _ _ _ _ _ _⟩
theorem Ff {l:PySem.W.OpenLaw} {w:World} {K:PySem.W.Frag} {h:Heap} {mg:Str->Option Value} {fa fLa fB fP fO fFr fW fWs fBd fF fS fVl fIs fOd fNu fLe fTr fPa fDe fTe fLo fSo fTo fBt fLp fKo fNo fNv fLy fEd fWo fBw fWd fSw fKw fLz fNm fNn fNf fIw fNb fLf fCp fIt fNt fPl fMd fLt fLr fWf fIy fIr fCa fLeo fNy fWa fR fSt fSh fGo tW tS qK fKI TdK d0K fPo fNe:Addr} (X:K.In h) (G:h.Ns mainGlobals mg) (hfa:mg "law" = some (.ref fa))
 {odKI anKI odTK:Option Addr} {slKI slTK:Array (Option Value)} {t_MOST_LETTERS t_MOST_FIELDS t_LIMIT t_MOST_PARTS t_MOST_DEEP t_NO t_YES t_ROW nTK:Nat} {ocKI kVKI dcKI pmKI cdKI ctKI ocTK:Value}
 (hLa:bA K "law" 84 fLa)
 (hB:bA K "_law_begin" 50 fB)
 (hP:bA K "_law_pick" 51 fP)
 (hO:bA K "_law_of" 52 fO)
 (hFr:bA K "_law_far" 53 fFr)
 (hW:bA K "_law_word" 55 fW)
 (hWs:bA K "_law_words" 56 fWs)
 (hBd:bA K "_law_bound" 57 fBd)
 (hF:bA K "_law_fields" 58 fF)
 (hS:bA K "_law_same" 54 fS)
 (hVl:bA K "_law_value" 59 fVl)
 (hIs:bA K "_law_is_name" 60 fIs)
 (hOd:bA K "_law_odd_name" 61 fOd)
 (hNu:bA K "_law_number" 62 fNu)
 (hLe:bA K "_law_leaf" 63 fLe)
 (hTr:bA K "_law_tree" 64 fTr)
 (hPa:bA K "_law_parts" 65 fPa)
 (hDe:bA K "_law_deep" 66 fDe)
 (hTe:bA K "_law_test" 67 fTe)
 (hLo:bA K "_law_leaf_ok" 68 fLo)
 (hSo:bA K "_law_shape_ok" 69 fSo)
 (hTo:bA K "_law_test_ok" 70 fTo)
 (hBt:bA K "_law_bent_test" 71 fBt)
 (hLp:bA K "_law_passes" 72 fLp)
 (hKo:bA K "_law_kind_of" 73 fKo)
 (hNo:bA K "_law_names_of" 74 fNo)
 (hNv:bA K "_law_near_values" 75 fNv)
 (hLy:bA K "_law_leaves_any" 76 fLy)
 (hEd:bA K "_law_ended" 77 fEd)
 (hWo:bA K "_law_way_ok" 78 fWo)
 (hBw:bA K "_law_bent_way" 79 fBw)
 (hWd:bA K "_law_walked" 80 fWd)
 (hSw:bA K "_law_some_way" 81 fSw)
 (hKw:bA K "_law_kept_way" 82 fKw)
 (hLz:bA K "_law_lean" 83 fLz)
 (hNm:bA K "is_name" 14 fNm)
 (hNn:bA K "need_name" 15 fNn)
 (hNf:bA K "need_fields" 16 fNf)
 (hIw:bA K "is_word" 24 fIw)
 (hNb:bA K "is_number" 25 fNb)
 (hLf:bA K "is_leaf" 26 fLf)
 (hCp:bA K "count_parts" 27 fCp)
 (hIt:bA K "is_test" 28 fIt)
 (hNt:bA K "need_test" 29 fNt)
 (hPl:bA K "passes_leaf" 30 fPl)
 (hMd:bA K "made" 40 fMd)
 (hLt:bA K "lay_test" 41 fLt)
 (hLr:bA K "lay_row" 42 fLr)
 (hWf:bA K "way_from" 43 fWf)
 (hIy:bA K "is_way" 35 fIy)
 (hIr:bA K "is_row" 36 fIr)
 (hCa:bA K "can_be_asked" 37 fCa)
 (hLeo:bA K "leads_on" 38 fLeo)
 (hNy:bA K "need_way" 39 fNy)
 (hWa:bA K "walk" 46 fWa)
 (hR:bA K "run" 44 fR)
 (hSt:bA K "steps" 45 fSt)
 (hSh:bA K "shorter" 47 fSh)
 (hGo:bA K "goal_of" 48 fGo)
 (z_len:PySem.W.nsIn K mainGlobals "len" = some none)
 (z_range:PySem.W.nsIn K mainGlobals "range" = some none)
 (z_list:PySem.W.nsIn K mainGlobals "list" = some none)
 (z_tuple:PySem.W.nsIn K mainGlobals "tuple" = some none)
 (z_str:PySem.W.nsIn K mainGlobals "str" = some none)
 (z_bool:PySem.W.nsIn K mainGlobals "bool" = some none)
 (z_int:PySem.W.nsIn K mainGlobals "int" = some none)
 (z_min:PySem.W.nsIn K mainGlobals "min" = some none)
 (z_repr:PySem.W.nsIn K mainGlobals "repr" = some none)
 (z_all:PySem.W.nsIn K mainGlobals "all" = some none)
 (z_any:PySem.W.nsIn K mainGlobals "any" = some none)
 (z_isinstance:PySem.W.nsIn K mainGlobals "isinstance" = some none)
 (z_sum:PySem.W.nsIn K mainGlobals "sum" = some none)
 (z_max:PySem.W.nsIn K mainGlobals "max" = some none)
 (z_enumerate:PySem.W.nsIn K mainGlobals "enumerate" = some none)
 (z_zip:PySem.W.nsIn K mainGlobals "zip" = some none)
 (z_set:PySem.W.nsIn K mainGlobals "set" = some none)
 (z_reversed:PySem.W.nsIn K mainGlobals "reversed" = some none)
 (i_MOST_LETTERS:PySem.W.nsIn K mainGlobals "MOST_LETTERS" = some (some (.int 8 t_MOST_LETTERS)))
 (i_MOST_FIELDS:PySem.W.nsIn K mainGlobals "MOST_FIELDS" = some (some (.int 4 t_MOST_FIELDS)))
 (i_LIMIT:PySem.W.nsIn K mainGlobals "LIMIT" = some (some (.int 999999 t_LIMIT)))
 (i_MOST_PARTS:PySem.W.nsIn K mainGlobals "MOST_PARTS" = some (some (.int 15 t_MOST_PARTS)))
 (i_MOST_DEEP:PySem.W.nsIn K mainGlobals "MOST_DEEP" = some (some (.int 5 t_MOST_DEEP)))
 (i_NO:PySem.W.nsIn K mainGlobals "NO" = some (some (.int 0 t_NO)))
 (i_YES:PySem.W.nsIn K mainGlobals "YES" = some (some (.int 1 t_YES)))
 (i_ROW:PySem.W.nsIn K mainGlobals "ROW" = some (some (.int 2 t_ROW)))
 (a_tW:PySem.W.nsIn K mainGlobals "WITHIN" = some (some (.ref tW)))
 (ktW:PyProof.Rows.KTD.tabLook PyProof.Rows.KTD.flatLooks (fun b=>K.lookup b) tW dW=true)
 (a_tS:PySem.W.nsIn K mainGlobals "SIGN_OF" = some (some (.ref tS)))
 (ktS:PyProof.Rows.KTD.tabLook PyProof.Rows.KTD.flatLooks (fun b=>K.lookup b) tS dS=true)
 (a_qK:PySem.W.nsIn K mainGlobals "Kind" = some (some (.ref qK)))
 (pgK:PySem.W.plainGet K qK Str.empty=true)
 (hdK:PySem.W.hasDictIn K qK=true)
 (poK:PySem.W.plainOver K qK=true)
 (saK:PySem.W.findIn K (.ref qK) "__setattr__" = some (some (.builtin "object.__setattr__")))
 (mkK:PySem.W.makesIn K qK=true)
 (kcK:PySem.W.keepIn K (.ref qK)=true)
 (nK_name:PySem.W.findIn K (.ref qK) "name" = some none)
 (nK_fields:PySem.W.findIn K (.ref qK) "fields" = some none)
 (aKI:PySem.W.findIn K (.ref qK) "__init__" = some (some (.ref fKI)))
 (lKI:K.lookup fKI=some ⟨ocKI,odKI,.func (PySem.W.fnOf "__init__" "Kind.__init__" (fK (kM 0)) (dU (kM 0)) (aD (kM 0)) (.ref TdK) kVKI dcKI pmKI anKI cdKI ctKI),slKI⟩)
 (cKI:PySem.W.codeIn K cdKI "Kind.__init__" = true)
 (kKI:PySem.W.keepIn K (.ref fKI)=true)
 (iKI:PySem.W.isFn K (.ref fKI)=true)
 (lTK:K.lookup TdK=some ⟨ocTK,odTK,.seq #[.ref d0K] nTK,slTK⟩)
 (hPo:Ds K qK "place_of" "Kind.place_of" (kM 3) fPo)
 (hNe:Ds K qK "need" "Kind.need" (kM 4) fNe) :
 ∃ fd:FuncData,(∀ (s:Shared) (v:Value),BindsTo s fd ⟨[v],[]⟩ [("_law_script",v)])/\∀ base:Heap,K.In base->base.Ns mainGlobals mg->aQ l.prog w K mg base bC 14 fa fd ["_law_script"] (zf K):=by
 obtain ⟨aLa,fd,FLa⟩:=hLa
 have e:=hfa.symm.trans (PySem.W.mg_of X G aLa)
 cases e
 have FLb:=FLa
 obtain ⟨oc,od,kV,doc,pm,an,cdv,ct,osl,rfl,lk,hcd⟩:=FLb.ex
 have T:Txt K mg:=⟨PySem.W.mg_none_of X G z_len,PySem.W.mg_none_of X G z_range,PySem.W.mg_none_of X G z_list,PySem.W.mg_none_of X G z_tuple,PySem.W.mg_none_of X G z_str,PySem.W.mg_none_of X G z_bool,PySem.W.mg_none_of X G z_int,PySem.W.mg_none_of X G z_min,PySem.W.mg_none_of X G z_repr,PySem.W.mg_none_of X G z_all,PySem.W.mg_none_of X G z_any,PySem.W.mg_none_of X G z_isinstance⟩
 obtain ⟨_,DB⟩:=hB.d1 (mg:=mg) X G "_law_script" fun _ _ _ _ _ _ _=>rfl
 obtain ⟨_,DP⟩:=hP.d2 (mg:=mg) X G "_law_d" "_law_many" fun _ _ _ _ _ _ _ _=>rfl
 obtain ⟨_,DO⟩:=hO.d2 (mg:=mg) X G "_law_d" "_law_things" fun _ _ _ _ _ _ _ _=>rfl
 obtain ⟨_,DFr⟩:=hFr.d1 (mg:=mg) X G "_law_d" fun _ _ _ _ _ _ _=>rfl
 obtain ⟨_,DW⟩:=hW.d1 (mg:=mg) X G "_law_d" fun _ _ _ _ _ _ _=>rfl
 obtain ⟨_,DWs⟩:=hWs.d2 (mg:=mg) X G "_law_d" "_law_many" fun _ _ _ _ _ _ _ _=>rfl
 obtain ⟨_,DBd⟩:=hBd.d1 (mg:=mg) X G "_law_d" fun _ _ _ _ _ _ _=>rfl
 obtain ⟨_,DF⟩:=hF.d2 (mg:=mg) X G "_law_d" "_law_many" fun _ _ _ _ _ _ _ _=>rfl
 obtain ⟨_,DS⟩:=hS.d2 (mg:=mg) X G "_law_found" "_law_due" fun _ _ _ _ _ _ _ _=>rfl
 obtain ⟨_,DVl⟩:=hVl.d2 (mg:=mg) X G "_law_d" "_law_field" fun _ _ _ _ _ _ _ _=>rfl
 obtain ⟨_,DIs⟩:=hIs.d1 (mg:=mg) X G "_law_text" fun _ _ _ _ _ _ _=>rfl
 obtain ⟨_,DOd⟩:=hOd.d2 (mg:=mg) X G "_law_d" "_law_text" fun _ _ _ _ _ _ _ _=>rfl
 obtain ⟨_,DNu⟩:=hNu.d1 (mg:=mg) X G "_law_d" fun _ _ _ _ _ _ _=>rfl
 obtain ⟨_,DLe⟩:=hLe.d3 (mg:=mg) X G "_law_d" "_law_names" "_law_kinds" fun _ _ _ _ _ _ _ _ _=>rfl
 obtain ⟨_,DTr⟩:=hTr.d4 (mg:=mg) X G "_law_d" "_law_deep_here" "_law_names" "_law_kinds" fun _ _ _ _ _ _ _ _ _ _=>rfl
 obtain ⟨_,DPa⟩:=hPa.d1 (mg:=mg) X G "_law_test_here" fun _ _ _ _ _ _ _=>rfl
 obtain ⟨_,DDe⟩:=hDe.d1 (mg:=mg) X G "_law_test_here" fun _ _ _ _ _ _ _=>rfl
 obtain ⟨_,DTe⟩:=hTe.d3 (mg:=mg) X G "_law_d" "_law_names" "_law_kinds" fun _ _ _ _ _ _ _ _ _=>rfl
 obtain ⟨_,DLo⟩:=hLo.d1 (mg:=mg) X G "_law_test_here" fun _ _ _ _ _ _ _=>rfl
 obtain ⟨_,DSo⟩:=hSo.d1 (mg:=mg) X G "_law_test_here" fun _ _ _ _ _ _ _=>rfl
 obtain ⟨_,DTo⟩:=hTo.d1 (mg:=mg) X G "_law_test_here" fun _ _ _ _ _ _ _=>rfl
 obtain ⟨_,DBt⟩:=hBt.d2 (mg:=mg) X G "_law_d" "_law_test_here" fun _ _ _ _ _ _ _ _=>rfl
 obtain ⟨_,DLp⟩:=hLp.d4 (mg:=mg) X G "_law_test_here" "_law_title" "_law_fields_here" "_law_values" fun _ _ _ _ _ _ _ _ _ _=>rfl
 obtain ⟨_,DKo⟩:=hKo.d1 (mg:=mg) X G "_law_d" fun _ _ _ _ _ _ _=>rfl
 obtain ⟨_,DNo⟩:=hNo.d2 (mg:=mg) X G "_law_d" "_law_fields_here" fun _ _ _ _ _ _ _ _=>rfl
 obtain ⟨_,DNv⟩:=hNv.d3 (mg:=mg) X G "_law_d" "_law_test_here" "_law_fields_here" fun _ _ _ _ _ _ _ _ _=>rfl
 obtain ⟨_,DLy⟩:=hLy.d1 (mg:=mg) X G "_law_test_here" fun _ _ _ _ _ _ _=>rfl
 obtain ⟨_,DEd⟩:=hEd.d1 (mg:=mg) X G "_law_jump" fun _ _ _ _ _ _ _=>rfl
 obtain ⟨_,DWo⟩:=hWo.d1 (mg:=mg) X G "_law_way" fun _ _ _ _ _ _ _=>rfl
 obtain ⟨_,DBw⟩:=hBw.d2 (mg:=mg) X G "_law_d" "_law_way" fun _ _ _ _ _ _ _ _=>rfl
 obtain ⟨_,DWd⟩:=hWd.d4 (mg:=mg) X G "_law_way" "_law_title" "_law_fields_here" "_law_values" fun _ _ _ _ _ _ _ _ _ _=>rfl
 obtain ⟨_,DSw⟩:=hSw.d3 (mg:=mg) X G "_law_d" "_law_title" "_law_fields_here" fun _ _ _ _ _ _ _ _ _=>rfl
 obtain ⟨_,DKw⟩:=hKw.d1 (mg:=mg) X G "_law_way" fun _ _ _ _ _ _ _=>rfl
 obtain ⟨_,DLz⟩:=hLz.d1 (mg:=mg) X G "_law_way" fun _ _ _ _ _ _ _=>rfl
 obtain ⟨_,DNm⟩:=hNm.d1 (mg:=mg) X G "text" fun _ _ _ _ _ _ _=>rfl
 obtain ⟨_,DNn⟩:=hNn.d1 (mg:=mg) X G "text" fun _ _ _ _ _ _ _=>rfl
 obtain ⟨_,DNf⟩:=hNf.d1 (mg:=mg) X G "fields" fun _ _ _ _ _ _ _=>rfl
 obtain ⟨_,DIw⟩:=hIw.d1 (mg:=mg) X G "thing" fun _ _ _ _ _ _ _=>rfl
 obtain ⟨_,DNb⟩:=hNb.d1 (mg:=mg) X G "thing" fun _ _ _ _ _ _ _=>rfl
 obtain ⟨_,DLf⟩:=hLf.d1 (mg:=mg) X G "test" fun _ _ _ _ _ _ _=>rfl
 obtain ⟨_,DCp⟩:=hCp.d2 (mg:=mg) X G "thing" "deep" fun _ _ _ _ _ _ _ _=>rfl
 obtain ⟨_,DIt⟩:=hIt.d1 (mg:=mg) X G "test" fun _ _ _ _ _ _ _=>rfl
 obtain ⟨_,DNt⟩:=hNt.d1 (mg:=mg) X G "test" fun _ _ _ _ _ _ _=>rfl
 obtain ⟨_,DPl⟩:=hPl.d3 (mg:=mg) X G "leaf" "kind" "values" fun _ _ _ _ _ _ _ _ _=>rfl
 obtain ⟨_,DMd⟩:=hMd.d1 (mg:=mg) X G "test" fun _ _ _ _ _ _ _=>rfl
 obtain ⟨_,DLt⟩:=hLt.d4 (mg:=mg) X G "test" "yes" "no" "laid" fun _ _ _ _ _ _ _ _ _ _=>rfl
 obtain ⟨_,DLr⟩:=hLr.d4 (mg:=mg) X G "leaf" "yes" "no" "laid" fun _ _ _ _ _ _ _ _ _ _=>rfl
 obtain ⟨_,DWf⟩:=hWf.d2 (mg:=mg) X G "goal" "laid" fun _ _ _ _ _ _ _ _=>rfl
 obtain ⟨_,DIy⟩:=hIy.d1 (mg:=mg) X G "way" fun _ _ _ _ _ _ _=>rfl
 obtain ⟨_,DIr⟩:=hIr.d3 (mg:=mg) X G "row" "at" "many" fun _ _ _ _ _ _ _ _ _=>rfl
 obtain ⟨_,DCa⟩:=hCa.d1 (mg:=mg) X G "leaf" fun _ _ _ _ _ _ _=>rfl
 obtain ⟨_,DLeo⟩:=hLeo.d3 (mg:=mg) X G "goal" "at" "many" fun _ _ _ _ _ _ _ _ _=>rfl
 obtain ⟨_,DNy⟩:=hNy.d1 (mg:=mg) X G "way" fun _ _ _ _ _ _ _=>rfl
 obtain ⟨_,DWa⟩:=hWa.d3 (mg:=mg) X G "way" "kind" "values" fun _ _ _ _ _ _ _ _ _=>rfl
 obtain ⟨_,DR⟩:=hR.d3 (mg:=mg) X G "way" "kind" "values" fun _ _ _ _ _ _ _ _ _=>rfl
 obtain ⟨_,DSt⟩:=hSt.d3 (mg:=mg) X G "way" "kind" "values" fun _ _ _ _ _ _ _ _ _=>rfl
 obtain ⟨_,DSh⟩:=hSh.d1 (mg:=mg) X G "way" fun _ _ _ _ _ _ _=>rfl
 obtain ⟨_,DGo⟩:=hGo.d2 (mg:=mg) X G "end" "goals" fun _ _ _ _ _ _ _ _=>rfl
 have FKI:xF K "__init__" "Kind.__init__" (kM 0) (.ref TdK) fKI _:=⟨⟨_,_,_,_,_,_,_,_,_,rfl,lKI,cKI⟩,kKI⟩
 have bKI:=FKI.binds (ps:=["self","name","fields"]) (ds:=[]) lTK rfl fun kV doc pm an cdv ct s us hT hl=>yp rfl kV doc pm an cdv ct s us hT hl
 have MkK:Mk K qK fKI:=⟨mkK,aKI,iKI,kcK⟩
 obtain ⟨fdPo,aPo,FPo⟩:=hPo
 have bPo:=FPo.binds (ps:=["self","field"]) fun _ _ _ _ _ _ us hl=>by obtain ⟨_,_,rfl⟩:=Aw hl;rfl
 have MPo:MD K qK "place_of" "Kind.place_of" (kM 3) ["self","field"] fPo _:=⟨⟨aPo.1,aPo.2,FPo.kp⟩,FPo,bPo⟩
 obtain ⟨fdNe,aNe,FNe⟩:=hNe
 have bNe:=FNe.binds (ps:=["self","values"]) fun _ _ _ _ _ _ us hl=>by obtain ⟨_,_,rfl⟩:=Aw hl;rfl
 have MNe:MD K qK "need" "Kind.need" (kM 4) ["self","values"] fNe _:=⟨⟨aNe.1,aNe.2,FNe.kp⟩,FNe,bNe⟩
 refine ⟨PySem.W.fnOf "law" "law" (fK (top 84)) (dU (top 84)) (aD (top 84)) .none kV doc pm an cdv ct,fun s v=>.of_eq rfl,fun base _ _=>?_⟩
 have TK':qL mg:=⟨⟨_,PySem.W.mg_of X G i_MOST_LETTERS⟩,⟨_,PySem.W.mg_of X G i_MOST_FIELDS⟩,⟨_,PySem.W.mg_of X G i_LIMIT⟩⟩
 have TT:K6 mg:=⟨⟨_,PySem.W.mg_of X G i_MOST_PARTS⟩,⟨_,PySem.W.mg_of X G i_MOST_DEEP⟩⟩
 have TB:Ha K mg tW tS:=⟨PySem.W.mg_of X G a_tW,PySem.W.mg_of X G a_tS,ktW,ktS⟩
 have hsum:=PySem.W.mg_none_of X G z_sum
 have hmax:=PySem.W.mg_none_of X G z_max
 have hen:=PySem.W.mg_none_of X G z_enumerate
 have hzp:=PySem.W.mg_none_of X G z_zip
 have hset:=PySem.W.mg_none_of X G z_set
 have hrv:=PySem.W.mg_none_of X G z_reversed
 have TW:tE mg:=⟨⟨_,PySem.W.mg_of X G i_NO⟩,⟨_,PySem.W.mg_of X G i_YES⟩,⟨_,PySem.W.mg_of X G i_ROW⟩⟩
 have KC:KCls K mg qK:=⟨⟨pgK,hdK,poK,saK⟩,nK_name,nK_fields,PySem.W.mg_of X G a_qK⟩
 have GCp:=JV (P:=l.prog) (w:=w) (base:=base) DCp T hsum TK' TB DNm DIw DNb DLf 5 (by decide)
 have GIt:=Ka (P:=l.prog) (w:=w) (base:=base) DIt.F TT DCp GCp
 have GNt:=Jt (P:=l.prog) (w:=w) (base:=base) (cT:=0) DNt.F DIt GIt
 have GPo:=yu (P:=l.prog) (w:=w) (base:=base) FPo T hen KC
 have GPl:=J4 (P:=l.prog) (w:=w) (base:=base) DPl.F KC MPo GPo
 have GLf:=El (P:=l.prog) (w:=w) (base:=base) DLf.F T TK' TB DNm DIw DNb
 have GLr:=Iu (P:=l.prog) (w:=w) (base:=base) DLr.F TW
 have GLt:=Ii (P:=l.prog) (w:=w) (base:=base) DLt DLr GLr 5
 have GWf:=JB (P:=l.prog) (w:=w) (base:=base) DWf.F T TW hrv hen
 have GMd:=Lq (P:=l.prog) (w:=w) (base:=base) DMd.F TW DNt GNt DLt GLt DWf GWf
 have GIr:=JK (P:=l.prog) (w:=w) (base:=base) DIr.F DCa (KR DCa.F T DLf GLf) DLeo (G_ DLeo.F T)
 have GNy:=Ht (P:=l.prog) (w:=w) (base:=base) DNy.F DIy (GX DIy.F T hen DIr GIr)
 have GNe:=FP (P:=l.prog) (w:=w) (base:=base) FNe T hen hzp KC
 have GWa:=Ih (P:=l.prog) (w:=w) (base:=base) DWa.F T KC DNy GNy MNe GNe DPl GPl
 have GR:=Hg (P:=l.prog) (w:=w) (base:=base) DR.F DWa GWa
 have GSt:=Gd (P:=l.prog) (w:=w) (base:=base) DSt.F DWa GWa
 have GSh:=Ky (P:=l.prog) (w:=w) (base:=base) DSh.F T hrv DNy GNy DGo (M7 DGo.F T TW) DLr (ye DLr.F TW) DWf (zF DWf.F T TW hrv hen)
 have GW:=qD (P:=l.prog) (w:=w) (base:=base) DW.F T DP DO
 have GTe:=JP (P:=l.prog) (w:=w) (base:=base) DTe.F T hsum DP DO DNu DLe DTr DPa
 have GSo:=Ln (P:=l.prog) (w:=w) (base:=base) DSo T DIs DLo 8
 have GTo:=JN (P:=l.prog) (w:=w) (base:=base) DTo.F DSo GSo DDe (Jc DDe hmax 8) DPa (Ej DPa hsum 8)
 have GEd:=JW (mg:=mg) (P:=l.prog) (w:=w) (base:=base) DEd.F
 have GWd:=Je (P:=l.prog) (w:=w) (base:=base) DWd.F T DEd GEd DLp (Jy DLp T 5)
 have GF:=wH (P:=l.prog) (w:=w) (base:=base) DF.F T DP DO DW DWs DBd
 have GB1:=Dl (P:=l.prog) (w:=w) (base:=base) (kw:=2) (n:=1) (by decide) (by decide) (by decide) (by decide) DBw.F T DP DO DFr DBt (DY DBt T DP DO DW DFr DOd 1)
 have GB2:=Dl (P:=l.prog) (w:=w) (base:=base) (kw:=3) (n:=2) (by decide) (by decide) (by decide) (by decide) DBw.F T DP DO DFr DBt (DY DBt T DP DO DW DFr DOd 2)
 have GKI:=Bq (P:=l.prog) (w:=w) (base:=base) FKI T TK' KC DNm DNn DNf
 exact Gz FLa T KC DB DP DS DKo (Kp DKo.F T DP DW GW DF GF) DSw (Jx DSw.F DNo (Lb DNo.F DW GW) DTe GTe DMd GMd) DBw GB1 GB2 DWo (Ly DWo.F T DEd GEd DTo GTo) DSh GSh DKw (J3 DKw.F T) DLz (J8 DLz.F T hset DEd GEd) DNv (Fx DNv.F T hmax DP DVl (Cz DVl.F T DP DO) DLy) DR GR DSt GSt DWd GWd MkK GKI bKI
end Cm
open PySem PySem.W PyProof.Rows
set_option maxRecDepth 100000 in
set_option maxHeartbeats 0 in
theorem PySem.Challenge.cw_lanescribe_k11_whole_shorter_ways_tell_t_holds : PySem.Challenge.rw_lanescribe_k11_whole_shorter_ways_tell_t.Holds := by
 w_on
 refine Kd.head ?hw (by rfl) (by rfl) (by rfl) ?hc
 (case hw=>w_witness2)
 k_fill
 refine L2.Bm (l:=PySem.Challenge.rw_lanescribe_k11_whole_shorter_ways_tell_t) (n:=63) (k:=14) (x:="_law_script") (CX:=fun _=>L2.bC) (sp:=fun w=>Cm.zf _) rfl (by decide) rfl ⟨rfl,by decide,by decide,rfl⟩ (fun w h Y=>kIn_of Y) ?F (fun _ _ a ns hl _ hS=>⟨a,ns,rfl,hS,hl,fun _=>rfl⟩) fun _ _ _ _ _ z=>z
 case F=>
  intro w mg fa h KX G hmg
  refine' Cm.Ff KX G hmg ?_ ?_ ?_ ?_ ?_ ?_ ?_ ?_ ?_ ?_ ?_ ?_ ?_ ?_ ?_ ?_ ?_ ?_ ?_ ?_ ?_ ?_ ?_ ?_ ?_ ?_ ?_ ?_ ?_ ?_ ?_ ?_ ?_ ?_ ?_ ?_ ?_ ?_ ?_ ?_ ?_ ?_ ?_ ?_ ?_ ?_ ?_ ?_ ?_ ?_ ?_ ?_ ?_ ?_ ?_ ?_ ?_ ?_ ?_ ?_ ?_ ?_ ?_ ?_ ?_ ?_ ?_ ?_ ?_ ?_ ?_ ?_ ?_ ?_ ?_ ?_ ?_ ?_ ?_ ?_ ?_ ?_ ?_ ?_ ?_ ?_ ?_ ?_ ?_ ?_ ?_ ?_ ?_ ?_ ?_ ?_ ?_ ?_ ?_ ?_ ?_ ?_ ?_ ?_ ?_ ?_
  any_goals first|k_is|exact ⟨by k_is,_,⟨_,_,_,_,_,_,_,_,_,rfl,by k_is,by k_is⟩,by k_is⟩|exact ⟨_,⟨by k_is,by k_is⟩,⟨_,_,_,_,_,_,_,_,_,rfl,by k_is,by k_is⟩,by k_is⟩|skip
  any_goals first|kernel_rfl|decide|(intros;kernel_rfl)|skip
