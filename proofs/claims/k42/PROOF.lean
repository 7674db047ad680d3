import PyProof.Rows.All
import Wide.All
import OpenK.AllK
import Wide.FinOn
import KE.KNestM
import Lean
import PyProof.EqAt
import PyProof.EqKinds
import PyProof.TupleCall
import PyProof.StationsW
import PyProof.ExcBaseAll.ValueError
import PyProof.InstStoreFacts
import PyProof.RulesAs
import PyProof.RulesDel
import KE.KLam
import PyProof.ExcArgsOwn
import PyProof.AutoListH
import PyProof.StrWalks
import PyProof.StrBlockH
import PyProof.WalkInts
import PyProof.SeqI3
import PyProof.Rows.SetFrom
import PyProof.ZipIter
import KE.KTabLook
import PyProof.StrLaws
import KE.KIntText
import KE.KStrOpen
import PyProof.StrLawsTight
import PyProof.Rows.StrFit
import PyProof.Draws
import PyProof.EnumMake
import PyProof.StrCalls2
import PyProof.Rows.StrSplitJoin
import PyProof.CollectIter
import PyProof.StrBlock2
import PyProof.Rows.SortWalk
import PyProof.Rows.CallKwBuiltin
import KE.KMinBuiltin
import KE.KRevSl
import PyProof.DictItemsLoops
import PyProof.CollectWalk
import PyProof.ListRange
import KE.KSortAsk
import PyProof.SetRoads
import KE.KRevIter
import PyProof.FactsAll.range_2
import PyProof.IsRules
import PyProof.DictItems
import KE.KSortTup
import PyProof.DictWalks
import PySem.Challenge.RW_lanescribe_k42_whole_tests_let_events_by
abbrev Zl:=PySem.Addr
abbrev Zp:=PySem.Shared
abbrev Zs:=PySem.W.Frag
abbrev ZB:=PySem.FuncData
abbrev ZE:=PySem.Program
abbrev ZH:=PySem.World
abbrev ZI:=PySem.Value
abbrev ZN:=PySem.Heap
abbrev ZO:=PySem.Around
abbrev ZT:=PySem.Expr
abbrev ZU:=PySem.Scope
abbrev ZY:=PySem.Value→PySem.Shared→Prop
abbrev Y1:=PySem.Str→Option PySem.Value
abbrev Y2:=List PySem.Str
abbrev Y3:=List PySem.Value
abbrev YA:=Array PySem.Value
abbrev YE:=Option PySem.Addr
abbrev YI:=List PySem.Addr
abbrev YN:=List (PySem.Addr×PySem.Obj)
abbrev YO:=PySem.Result→PySem.Shared→Prop
abbrev YR:=List (PySem.Str×PySem.Addr)
abbrev YU:=List PySem.Expr
abbrev YV:=Array (Option PySem.Value)
abbrev aaa:=@PySem.wpAny_bind
abbrev aab:=@if_neg
abbrev aac:=@if_pos
abbrev aad:=@List.length_map
abbrev aae:=@PySem.wpAny_pure
abbrev aaf:=@Nat.le_refl
abbrev aag:=@Nat.le_trans
abbrev aah:=@List.mem_cons_of_mem
abbrev aai:=@List.mem_cons
abbrev aaj:=@List.mem_of_getElem?
abbrev aak:=@List.mem_append
abbrev aal:=@List.mem_cons_self
abbrev aam:=@List.mem_singleton
abbrev aan:=@PySem.Heap.get?_push_of_some
abbrev aao:=@List.getElem?_map
abbrev aap:=@List.mem_map
abbrev aaq:=@PySem.Heap.lt_size
abbrev aar:=@List.getElem?_eq_some_iff
abbrev aas:=@List.length_append
abbrev aat:=@List.map_cons
abbrev aau:=@List.size_toArray
abbrev aav:=@List.length_cons
abbrev aaw:=@List.map_append
abbrev aax:=@List.mem_iff_getElem?
abbrev aay:=@Nat.ne_of_lt
abbrev aaz:=@List.getElem?_eq_getElem
abbrev aaA:=@List.flatMap_cons
abbrev aaB:=@congrArg
abbrev aaC:=@PySem.Heap.get?_push_size
abbrev aaD:=@List.nodup_cons
abbrev aaE:=@List.mem_append_right
abbrev aaF:=@Nat.lt_of_lt_of_le
abbrev aaG:=@PySem.wpAny_mono
abbrev aaH:=@Bool.false_ne_true
abbrev aaI:=@Ne.symm
abbrev aaJ:=@Nat.zero_le
abbrev aaK:=@Bool.and_eq_true
abbrev aaL:=@List.take_length
abbrev aaM:=@List.mem_flatMap
abbrev aaN:=@PySem.wpAny_field
abbrev aaO:=@PySem.PassesOwn.never
abbrev aaP:=@True.intro
abbrev aaQ:=@List.append_nil
abbrev aaR:=@decide_eq_false
abbrev aaS:=@List.length_take
abbrev aaT:=@List.take_add_one
abbrev aaU:=@List.flatMap_append
abbrev aaV:=@PySem.Paired.length
abbrev aaW:=@Option.some.inj
abbrev aaX:=@Nat.le_of_lt
abbrev aaY:=@List.mem_append_left
abbrev aaZ:=@PySem.F.plainAttrs_list
abbrev aa0:=@PySem.wpAny_truthy_bool
abbrev aa1:=@decide_eq_true
abbrev aa2:=@PySem.wpAny_newObj_type
abbrev aa3:=@PySem.F.slot_list_append
abbrev aa4:=@List.not_mem_nil
abbrev aa5:=@PySem.Heap.size_push
abbrev aa6:=@List.length_nil
abbrev aa7:=@PySem.wpAny_setField_rec
abbrev aa8:=@PySem.F.type_list_append
abbrev aa9:=@List.nodup_append
abbrev aba:=@Bool.eq_iff_iff
abbrev abb:=@beq_iff_eq
abbrev abc:=@PySem.wpAny_call_entry
abbrev abd:=@List.take_of_length_le
abbrev abe:=@List.nodup_nil
abbrev abf:=@List.mem_or_eq_of_mem_set
abbrev abg:=@PySem.wpAny_holding
abbrev abh:=@List.lookup_cons
abbrev abi:=@decide_eq_true_eq
abbrev abj:=@List.filter_append
abbrev abk:=@List.getElem?_set
abbrev abl:=@PySem.wpAny_standAt
abbrev abm:=@PySem.wpAny_rule
abbrev abn:=@PySem.wpAny_Call_Name_kw
abbrev abo:=@Nat.le_succ
abbrev abp:=@Nat.lt_of_le_of_lt
abbrev abq:=@List.Sublist.refl
abbrev abr:=@beq_eq_false_iff_ne
abbrev abt:=@Sum.inr.inj
abbrev abu:=@Nat.lt_irrefl
abbrev abv:=@PySem.mem_of_lookup
abbrev abw:=@List.any_cons
abbrev abx:=@List.sum_cons
abbrev aby:=@List.map_map
abbrev abz:=@List.set_cons_succ
abbrev abA:=@List.map_set
abbrev abB:=@List.set_cons_zero
abbrev abC:=@Option.map_eq_some_iff
abbrev abD:=@PySem.wpAny_Name
abbrev abE:=@PyProof.Rows.slot_tuple_getitem
abbrev abF:=@List.find?_cons
abbrev abG:=@List.any_eq_true
abbrev abH:=@PySem.W.kia_one
abbrev abI:=@PySem.W.kia_tup
abbrev abJ:=@PySem.wpAny_seqItems
abbrev abK:=@PySem.AutoSeq1.wpAny_loadPart'
abbrev abL:=@Int.emod_nonneg
abbrev abM:=@Int.emod_lt_of_pos
abbrev abN:=@Int.zero_add
abbrev abO:=@PySem.Str.length_append
abbrev abP:=@Bool.true_and
abbrev abQ:=@List.zipWith_cons_cons
abbrev abR:=@List.all_eq_true
abbrev abS:=@Bool.false_and
abbrev abT:=@PySem.wpAny_pyIter_tuple
abbrev abU:=@PyProof.Rows.callWith_type1
abbrev abV:=@PySem.wpAny_passesOwn
abbrev abW:=@PySem.wpAny_call
abbrev abX:=@List.of_mem_zip
abbrev abY:=@List.getElem?_append_right
abbrev abZ:=@List.all_cons
abbrev ab0:=@List.map_nil
abbrev ab1:=@Bool.not_eq_true
abbrev ab2:=@beq_self_eq_true
abbrev ab3:=@Nat.le_add_right
abbrev ab4:=@List.cons_ne_nil
abbrev ab5:=@List.length_pos_iff
abbrev ab6:=@PySem.F.plainAttrs_str
abbrev ab7:=@Int.le_trans
abbrev ab8:=@List.getElem?_inj
abbrev ab9:=@List.eraseIdx_sublist
abbrev aca:=@List.dropLast_concat
abbrev acb:=@List.mem_range
abbrev acd:=@Nat.ne_of_gt
abbrev ace:=@Nat.lt_succ_self
abbrev acf:=@PySem.W.methodCall_KW
abbrev acg:=@List.length_replicate
abbrev ach:=@PySem.Calls.callWith_builtin
abbrev aci:=@List.eraseIdx_cons_succ
abbrev acj:=@of_decide_eq_true
abbrev ack:=@List.forIn_cons
abbrev acl:=@List.getD_eq_getElem?_getD
abbrev acm:=@List.range_succ_eq_map
abbrev acn:=@Nat.not_lt_zero
abbrev aco:=@PySem.F.slot_tuple_iterator_next
abbrev acp:=@PySem.wpAny_pyIter_enum
abbrev acq:=@PySem.F.slot_enumerate_next
abbrev acr:=@List.append_assoc
abbrev acs:=@List.drop_eq_getElem_cons
abbrev acu:=@List.drop_length
abbrev acv:=@List.filterMap_cons
abbrev acw:=@List.getElem?_set_self
abbrev acx:=@PySem.wpAny_loadName_local
abbrev acy:=@PySem.wpAny_loadName_cell
abbrev acz:=@Array.length_toList
abbrev acA:=@PySem.wpAny_pyIter_list
abbrev acB:=@List.any_eq_false
abbrev acC:=@PySem.W.plainGet_of
abbrev acD:=@PySem.Calls.spliced_nil
abbrev acE:=@PySem.Calls.spliced_cons
abbrev acF:=@PySem.W.callWith_K
abbrev acG:=@List.getElem?_take_of_lt
abbrev acH:=@List.take_sublist
abbrev acI:=@Int.toNat_natCast
abbrev acJ:=@PySem.wpAny_sequenceKey
abbrev acK:=@Bool.and_false
abbrev acL:=@Array.getElem?_toList
abbrev acM:=@Option.isSome_map
abbrev acN:=@Bool.false_eq_true
abbrev acO:=@PySem.wpAny_comprehension_free
abbrev acP:=@PySem.F.slot_dict_items
abbrev acQ:=@PySem.F.slot_dict_values
abbrev acR:=@Int.eq_ofNat_of_zero_le
abbrev acS:=@Array.toList_append
abbrev acT:=@PySem.BindsTo.of_defaults
abbrev acU:=@Nat.mul_le_mul_right
abbrev acV:=@Nat.pow_le_pow_right
abbrev acW:=@List.eq_nil_or_concat
abbrev acX:=@List.concat_eq_append
abbrev acY:=@List.length_set
abbrev acZ:=@List.pairwise_cons
abbrev ac0:=@List.zipWith_append
abbrev ac1:=@List.cons_append
abbrev ac2:=@Int.fdiv_eq_ediv_of_nonneg
abbrev ac3:=@List.getElem?_append_left
abbrev ac4:=@List.eraseIdxIfInBounds_toArray
set_option Elab.async false
set_option linter.all false
set_option maxRecDepth 1000000
set_option maxHeartbeats 0
set_option tactic.hygienic false
set_option compiler.extract_closed false
set_option hygiene false
namespace Kd
open PySem PySem.W
noncomputable section
def Dh{p q:Program}{a:List Str}{Xt:Shared->Bool}{c:Type}{g:Shared->c}{i:World->c}{N:Nat}(e:opening p=plainProg p.main.scope.names)(o:Nat.ble 600 N=true)(f:∀s,fenceModules? p s=some s)
 (h:∀(w:World)(b:OsState),(topFrom treeTable p w N ⟨boot_heap w.params,Array.mk [],boot_drawn,boot_toks,b⟩).map (λs=>(openSeen q a (importedModules p.main.body) Xt true s,g s))=some (openGood q a,i w)):LeftO p q a Xt g i N:=λw=>by
 obtain⟨⟨j,l,d,k,b⟩,m,n⟩:=abC.mp (boot_open e o f w);obtain⟨rfl,rfl,rfl,rfl⟩:j=boot_heap w.params/\l=Array.mk []/\d=boot_drawn/\k=boot_toks:=by simpa using n
 unfold openEnds;rw[m];exact h w b
noncomputable abbrev u(x:String):Str:=Str.ofString x
noncomputable abbrev vs(x:String)(t:Nat):Value:=.str (Str.ofString x) t
noncomputable abbrev vi(x:Int)(t:Nat):Value:=.int x t
noncomputable abbrev vr(x:Nat):Value:=.ref x
noncomputable abbrev vt(x:String):Value:=.type x
noncomputable abbrev vn:Value:=.none
noncomputable abbrev vb:Value:=.bool true
noncomputable abbrev vf(t:Nat):Value:=.str (Str.ofString "/claim/cut.py") t
noncomputable abbrev ot(x:Array Value):Obj:={cls:=.type "tuple",data:=Data.seq x}
noncomputable abbrev oc(x:Array Value):Obj:={cls:=.type "code",data:=Data.fields x}
noncomputable abbrev of(n q:String)(a:Arguments)(b:List Stmt)(s:Scope)(d m c:Value):Obj:={cls:=.type "function",data:=Data.func {name:=Str.ofString n,qualname:=Str.ofString q,params:=a,body:=FuncBody.stmts b,scope:=s,globals:=3,closure:=[],defaults:=d,kwdefaults:=.none,pyModule:=m,code:=c}}
noncomputable abbrev de(P:Params)(x:String)(t:Nat)(v:Value):DictEntry:={hash:=PyData.keyHash P (Str.ofString x),key:=.str (Str.ofString x) t,val:=v}
noncomputable def tp(i:Nat):Stmt:=PySem.Challenge.pw_lanescribe_k42_whole_tests_let_events_by.main.body.getD i (.Pass ⟨0,0,0,0⟩)
noncomputable def meth(i j:Nat):Stmt:=match tp i with
 |.ClassDef _ _ _ body _ _ _ _ _ _ _=>body.getD j (.Pass ⟨0,0,0,0⟩)
 |_=>.Pass ⟨0,0,0,0⟩
noncomputable def dA(s:Stmt):Arguments:=match s with
 |.FunctionDef _ a _ _ _ _ _ _ _ _=>a
 |_=>{posonlyargs:=[],args:=[],vararg:=none,kwonlyargs:=[],kw_defaults:=[],kwarg:=none,defaults:=[]}
noncomputable def dB(s:Stmt):List Stmt:=match s with
 |.FunctionDef _ _ b _ _ _ _ _ _ _=>b
 |_=>[]
noncomputable def dS(s:Stmt):Scope:=match s with
 |.FunctionDef _ _ _ _ _ _ sc _ _ _=>sc
 |_=>{kind:=.function,names:=[],isGenerator:=false,isCoroutine:=false}
abbrev TA(i:Nat):Arguments:=dA (tp i)
abbrev TB(i:Nat):List Stmt:=dB (tp i)
abbrev TS(i:Nat):Scope:=dS (tp i)
abbrev MA(i j:Nat):Arguments:=dA (meth i j)
abbrev MB(i j:Nat):List Stmt:=dB (meth i j)
abbrev MS(i j:Nat):Scope:=dS (meth i j)
noncomputable abbrev og(n q:String)(a:Arguments)(b:List Stmt)(s:Scope):Obj:={cls:=.none,data:=Data.func {name:=Str.ofString n,qualname:=Str.ofString q,params:=a,body:=FuncBody.stmts b,scope:=s,globals:=0,closure:=[],defaults:=.none,kwdefaults:=.none}}
abbrev gt(n:String)(i:Nat):Obj:=og n n (TA i) (TB i) (TS i)
abbrev gm(n q:String)(i j:Nat):Obj:=og n q (MA i j) (MB i j) (MS i j)
abbrev ft(n:String)(i:Nat):Value->Value->Value->Obj:=of n n (TA i) (TB i) (TS i)
abbrev fm(n q:String)(i j:Nat):Value->Value->Value->Obj:=of n q (MA i j) (MB i j) (MS i j)
noncomputable abbrev oq(n:String)(a:Nat)(q:String)(b c:Nat)(l k:Int)(r s:Nat)(x y z:Value)(t:Int)(d:Nat):Obj:=oc #[vs n a,vs q b,vf c,vi l 0,vi k 0,vi 0 0,vi 0 0,vi 3 0,vr r,vb,vi 181 0,vr s,vn,x,y,z,vi t 0,vi l 0,vf d]
abbrev ok(n:String)(a b c:Nat)(l k:Int)(r s:Nat)(x y z:Value)(t:Int)(d:Nat):Obj:=oq n a n b c l k r s x y z t d
abbrev z1:Value:=vs "lanescribe.errors" 194
abbrev z2:Value:=vs "lanescribe.lanes" 936
abbrev z3:Value:=vs "lanescribe.recorder" 1879
abbrev z4:Value:=vs "lanescribe.stand" 1527
abbrev z5:Value:=vs "law_lanescribe_k42_whole_tests_let_events_by" 2216
abbrev z6:Value:=vs "lanescribe.kinds" 708
abbrev z7:Value:=vs "lanescribe.tallies" 1439
abbrev z8:Value:=vs "lanescribe.clocks" 846
abbrev z9:Value:=vs "lanescribe.sieve" 1353
abbrev Wd:Value:=vs "lanescribe.merge" 1317
abbrev Ww:Value:=vs "ScribeError" 204
abbrev XR:Value:=vs "ScribeError" 196
noncomputable def nm(t:Nat)(l:List String):List Value:=List.rec (λ_=>[]) (λx _ a t=>.str (Str.ofString x) t::a (t+1)) l t
abbrev on(t:Nat)(l:List String):Obj:=ot ⟨nm t l⟩
noncomputable def lm(c:Nat)(l:List (Nat×Nat)):List Value:=List.rec [] (λx _ a=>.int x.1 0::.int c 0::.ref x.2::a) l
abbrev ol(c:Nat)(l:List (Nat×Nat)):Obj:={cls:=.none,data:=Data.fields ⟨lm c l⟩}
abbrev od(n:Nat)(l:List DictEntry):Obj:={cls:=.type "dict",data:=Data.dict ⟨l⟩ n}
abbrev dr(P:Params)(x:String)(t a:Nat):DictEntry:=de P x t (.ref a)
abbrev dn(P:Params)(x:String)(t:Nat):DictEntry:=de P x t .none
noncomputable def dl(P:Params)(l:List (String×Nat×Nat))(z:List DictEntry):List DictEntry:=List.rec z (λx _ a=>dr P x.1 x.2.1 x.2.2::a) l
noncomputable def r38(P:Params)(a b c:Nat):Obj:=od 1 [de P "most" a (vi b c)]
noncomputable def r39(P:Params)(a:Nat)(b:Value)(c d e:Nat)(f:String)(g:Nat)(h:String)(i:Nat)(j:String)(k:Nat)(l m:String)(n o:Nat):Obj:=od 4 [de P "__module__" a b,de P "__firstlineno__" (a+4) (vi c (a+3)),dr P "__init__" d e,dr P f (a+21) g,dr P h i (g+7),dr P j k (g+14),dr P l (a+43) (e+26),dr P m n o,dr P "__static_attributes__" (i+28) (o+1),dr P "__dict__" (i+30) (o+4),dr P "__weakref__" (i+32) (o+5),dn P "__doc__" (i+33)]
noncomputable def r1(a b:String)(c d e f g h i:Nat)(t:List Obj):List Obj:=gm a b c d::oq a e b (e+1) (e+2) f g h (h+1) (vr (h+2)) (vr (h+3)) (vr (h+4)) i (i+1)::t
noncomputable def r2  (t:List Obj):List Obj:=ot #[]::{cls:=vn,data:=Data.fields #[]}::t
noncomputable def r3(P:Params)(a b c d e:Nat)(f:String)(g:Nat)(h:String)(i:Nat)(j:String)(t:List Obj):List Obj:=od 2 [de P "__module__" (a+7) z1,de P "__firstlineno__" (a+11) (vi b (a+10)),dr P "__init__" c d,dr P "__static_attributes__" e (d+1),dn P "__doc__" (e+1)]::{cls:=vt "type",data:=Data.cls {name:=u f,bases:=[vr g],mro:=[vr (d+3),vr g,vt h,vt "Exception",vt "BaseException",vt "object"],ns:=(d+2),qualname:=u f},slots:=#[some (vr i),none,some (vs f a),some (vs f (a+8)),some (Value.builtin j),some (vb)]}::t
noncomputable def r4(a:String)(b c d:Nat)(e:Value)(t:List Obj):List Obj:=oc #[vs a b,vs a (b+1),vf (b+2),vi c 0,vi 0 0,vi 0 0,vi 0 0,vi 0 0,vr (d+1),Value.bool false,vi 181 0,vr (d+2),vn,vn,vn,vn,vi (b+3) 0,vi c 0,vf (b+4)]::{cls:=vt "frame",slots:=#[some (vr (d+3)),some (vr 3),some (vr d),none,some e,none,some (vr 0)]}::t
noncomputable def r5(P:Params)(a:Nat)(b:String)(c d e f:Nat)(t:List Obj):List Obj:={cls:=vt "builtin_function_or_method",data:=Data.fields #[Value.builtin "type.__prepare__",vt "type"]}::od 5 [de P "__module__" a z1,de P "__qualname__" (a+2) (vs b (a+1)),de P "__firstlineno__" (a+4) (vi c (a+3)),dr P "__init__" d e,dr P "__static_attributes__" f (e+1)]::t
noncomputable def r6(a:Nat)(t:List Obj):List Obj:={cls:=vt "super",data:=Data.fields #[vr a,vr a,vr a]}::{cls:=vt "builtin_function_or_method",data:=Data.fields #[Value.builtin "object.__init_subclass__",vr a]}::t
noncomputable def r9(a:String)(b c d:Nat)(t:List Obj):List Obj:={cls:=vt "type",data:=Data.cls {name:=u a,bases:=[vt "object"],mro:=[vr (b+1),vt "object"],ns:=b,qualname:=u a},slots:=#[none,none,some (vs a c),some (vs a (c+8)),some (Value.builtin "object.__new__"),some (vb)]}::{cls:=vt "getset_descriptor",data:=Data.fields #[vs "__dict__" d,vr (b+1),Value.builtin "function.__dict__",Value.builtin "function.__dict__#set"]}::t
noncomputable def r11(a b:String)(c d e f g h i:Nat)(j:Value)(t:List Obj):List Obj:=r1 a b c d e f g (h+1) i<|fm a b c d (vr h) j (vr (h+6))::t
noncomputable def r12(a b:Nat)(t:List Obj):List Obj:={cls:=vt "getset_descriptor",data:=Data.fields #[vs "__weakref__" a,vr b,Value.builtin "ExceptionGroup.__weakref__",vn]}::(r6 b<|t)
noncomputable def r17  (t:List Obj):List Obj:=ot #[]::{cls:=vt "builtin_function_or_method",data:=Data.fields #[Value.builtin "type.__prepare__",vt "type"]}::t
noncomputable def r18(a:Nat)(b:List String)(t:List Obj):List Obj:=r2<|on a b::ot #[]::t
noncomputable def r19(a:Nat)(b:List String)(c d:String)(e f g h i j:Nat)(k:Value)(t:List Obj):List Obj:=r18 (a+3) b<|r1 c d e f a g h i j<|fm c d e f vn k (vr (i+5))::t
noncomputable def r20(a:Nat)(b:List String)(c d:String)(e f g h i j:Nat)(k:Value)(l:List String)(m n:String)(o p q:Nat)(t:List Obj):List Obj:=r19 a b c d e f g h i j k<|r19 (j+3) l m n e (f+1) o p (i+7) q k<|t
noncomputable def r22(a:Nat)(b:List String)(c:String)(d e f g h:Nat)(i:Value)(t:List Obj):List Obj:=r18 (a+3) b<|gt c d::ok c a (a+1) (a+2) e f g (g+1) (vr (g+2)) (vr (g+3)) (vr (g+4)) h (h+1)::ft c d vn i (vr (g+5))::t
noncomputable def r23(a b:String)(c d e f g h:Nat)(i:Value)(t:List Obj):List Obj:=gm a b c d::oq a e b (e+1) (e+2) f g h (h+1) vn vn (vr (h+2)) (e+3) (e+4)::fm a b c d vn i (vr (h+3))::t
noncomputable def r26(a:String)(b c d e f:Nat)(g:Value)(t:List Obj):List Obj:=oc #[vs a b,vs a (b+1),vf (b+2),vi c 0,vi 2 0,vi 0 0,vi 1 0,vi 3 0,vr (d+1),vb,vi 181 0,vr (d+2),vn,vr (d+3),vr (d+4),vr (d+5),vi e 0,vi c 0,vf (e+1)]::{cls:=vt "function",data:=Data.func {name:=u a,qualname:=u a,params:=TA f,body:=FuncBody.stmts (TB f),scope:=TS f,globals:=3,closure:=[],defaults:=vn,kwdefaults:=vr d,pyModule:=g,code:=vr (d+6)}}::t
noncomputable def r27(a:List (Nat×Nat))(t:List Obj):List Obj:=ot #[]::ol 4 a::t
noncomputable def r28(a:String)(b c d e f:Nat)(g:Value)(t:List Obj):List Obj:=gt a b::ok a c (c+1) (c+2) d e f (f+1) vn vn (vr (f+2)) (c+3) (c+4)::ft a b vn g (vr (f+3))::t
noncomputable def r29(a b:String)(c d e f g h i j:Nat)(k:Value)(t:List Obj):List Obj:=gm a b c d::oc #[vs a e,vs b (e+1),vf (e+2),vi f 0,vi g 0,vi 0 0,vi h 0,vi 3 0,vr (i+1),vb,vi 181 0,vr (i+2),vn,vr (i+3),vr (i+4),vr (i+5),vi j 0,vi f 0,vf (j+1)]::{cls:=vt "function",data:=Data.func {name:=u a,qualname:=u b,params:=MA c d,body:=FuncBody.stmts (MB c d),scope:=MS c d,globals:=3,closure:=[],defaults:=vn,kwdefaults:=vr i,pyModule:=k,code:=vr (i+6)}}::t
noncomputable def r30(P:Params)(a b c:Nat)(t:List Obj):List Obj:=on (a+16) ["word"]::od 3 [de P "__module__" a z1,de P "__firstlineno__" (a+4) (vi b (a+3)),dr P "__init__" (a+15) c,dr P "__static_attributes__" (a+17) (c+1),dr P "__weakref__" (a+19) (c+4),dn P "__doc__" (a+20)]::t
noncomputable def r31(P:Params)(a b:Nat)(c:String)(d e f g:Nat)(t:List Obj):List Obj:=ot #[vr a]::(r5 P b c d e f g<|t)
noncomputable def r33(P:Params)(a:String)(b c d:Nat)(e:String)(f g:Nat)(h i:String)(t:List Obj):List Obj:=r4 a (b+2) c (d+2) z1<|on (b+12) [""]::(r18 (b+16) ["self","words"]<|r11 "__init__" e f 0 (b+13) (c+2) 2 (d+7) (b+18) z1<|ot #[]::(r3 P b c (b+20) (d+14) (b+21) a g h d i<|t))
noncomputable def r34(P:Params)(a:Nat)(b:Value)(c d e:Nat)(f:String)(g:Nat)(h:String)(t:List Obj):List Obj:=od 4 [de P "__module__" (a+7) b,de P "__firstlineno__" (a+11) (vi c (a+10)),dr P "__init__" d e,dr P f (d+8) (e+7),dr P "twin" (d+16) (e+14),dr P "__static_attributes__" g (e+15),dr P "__dict__" (g+2) (e+18),dr P "__weakref__" (g+4) (e+19),dn P "__doc__" (g+5)]::(r9 h (e+16) a (g+1)<|t)
noncomputable def r35(P:Params)(a:Nat)(b:Value)(c:String)(d e f:Nat)(g:String)(h:Nat)(t:List Obj):List Obj:=r17<|od 7 [de P "__module__" a b,de P "__qualname__" (a+2) (vs c (a+1)),de P "__firstlineno__" (a+4) (vi d (a+3)),dr P "__init__" e f,dr P g (e+8) (f+7),dr P "twin" (e+16) (f+14),dr P "__static_attributes__" h (f+15)]::t
noncomputable def r36(P:Params)(a b c:Nat)(d:String)(e f g:Nat)(t:List Obj):List Obj:=r6 a<|r31 P b c d e (c+13) f g<|t
noncomputable def r37(P:Params)(a:String)(b c d:Nat)(e:String)(f g:Nat)(h i j:String)(t:List Obj):List Obj:=r33 P a b c d e f g h i<|r36 P (d+17) g (b+32) j (c+4) (d+34) (b+46)<|t
noncomputable def xU(P:Params)(t:List DictEntry):List DictEntry:=dn P "__doc__" 166::dn P "__package__" 167::de P "__loader__" 168 (Value.builtin "__main__.__loader__#opaque")::dn P "__spec__" 169::(dl P [("__annotations__",170,6),("__builtins__",171,4)]<|de P "__file__" 173 (vf 172)::dn P "__cached__" 174::(dl P [("_wall",193,21),("ScribeError",225,39),("BadName",250,60),("BadBounds",275,80),("BadTest",300,100),("BadSize",325,120),("BadTime",350,140),("BadKeys",375,160)]<|t))
noncomputable def rF(P:Params)(t:List DictEntry):List DictEntry:=dl P [("BadTie",400,180),("BadCause",425,200),("Taken",450,220),("Full",475,240),("NotTop",500,260),("Stopped",525,280),("Busy",550,300)]<|t
noncomputable def uM(P:Params)(t:List DictEntry):List DictEntry:=dl P [("BadValue",575,319),("Broken",602,338),("Missing",632,358),("NoLane",657,379),("NoKind",682,399),("NoTicket",707,419)]<|de P "LIMIT" 711 (vi 999999 710)::de P "MOST_LETTERS" 713 (vi 8 712)::de P "MOST_FIELDS" 715 (vi 4 714)::dr P "is_name" 722 428::t
noncomputable def yz(P:Params)(t:List DictEntry):List DictEntry:=dl P [("need_name",729,435),("need_fields",740,442),("bounds_text",746,447),("Kind",845,520)]<|de P "MOST_AMOUNT" 849 (vi 99999 848)::de P "MOST_LANES" 851 (vi 6 850)::de P "HIGHEST_MOST" 855 (vi 1000000000000 854)::de P "GROUND" 858 (vi (-1) 857)::(dl P [("need_lanes",865,531),("need_ties",876,538),("need_most",883,545),("need_all",892,552),("bounds",898,557),("raised",904,562),("amounts",911,568),("ring",924,576),("ring_behind",935,583)]<|de P "PAGES" 939 (vi 4 938)::de P "ROOM" 941 (vi 8 940)::de P "FEWEST_PAGES" 943 (vi 2 942)::de P "MOST_PAGES" 945 (vi 16 944)::de P "LEAST_ROOM" 947 (vi 5 946)::de P "MOST_ROOM" 949 (vi 12 948)::(dl P [("need_pages",956,590),("need_room",963,597),("told_from",973,604),("place_behind",982,611),("Claim",1033,642),("Page",1081,678)]<|t))
noncomputable def Cd(P:Params)(t:List DictEntry):List DictEntry:=dl P [("Lane",1316,853),("need_cause",1328,864),("ties_of",1334,869),("merged",1340,874),("ordered",1352,882)]<|de P "MOST_PARTS" 1356 (vi 15 1355)::de P "MOST_DEEP" 1358 (vi 5 1357)::(dl P [("WITHIN",1368,883),("SIGN_OF",1375,884),("is_word",1382,891),("is_number",1389,898),("is_leaf",1397,905),("count_parts",1403,910),("is_test",1410,917),("need_test",1417,924),("passes",1427,931),("passes_leaf",1438,938)]<|de P "MOST_KEYS" 1442 (vi 16 1441)::t)
noncomputable def Jg(P:Params)(t:List DictEntry):List DictEntry:=de P "KEYS_LIMIT" 1444 (vi 64 1443)::de P "MOST_NAMED" 1446 (vi 4 1445)::(dl P [("need_keys",1455,945),("Tally",1526,996)]<|de P "MOST_KINDS" 1530 (vi 8 1529)::de P "MOST_TRACKS" 1532 (vi 6 1531)::de P "MOST_TALLIES" 1534 (vi 4 1533)::(dl P [("need_new",1542,1007),("need_fewer",1550,1014),("Track",1597,1045),("Stand",1669,1097),("do_kind",1679,1108),("do_lane",1689,1115),("do_tick",1700,1122),("do_claim",1712,1129),("do_fill",1723,1136),("do_give",1738,1143),("do_throw",1747,1150),("do_write",1758,1157),("do_take",1766,1164),("do_resize",1776,1171)]<|t))
noncomputable def J9(P:Params)(t:List DictEntry):List DictEntry:=dl P [("do_sieve",1787,1178),("do_tally",1799,1185),("do_halt",1808,1192),("do_stop",1816,1199),("do_go",1824,1206),("do_whole",1836,1213),("DEEDS",1869,1214),("perform",1878,1221),("Recorder",2215,1500)]<|t
noncomputable def Gm(t:List (Nat×Nat)):List (Nat×Nat):=(1,20)::(5,27)::(10,48)::(14,68)::(18,88)::(22,108)::(26,128)::(30,148)::(34,168)::(38,188)::(42,208)::(46,228)::(50,248)::(54,268)::(58,288)::(62,308)::(67,327)::(73,346)::(78,367)::(82,387)::(86,407)::(94,427)::(96,434)::(99,441)::(108,446)::(110,453)::(155,530)::(158,537)::(164,544)::(167,551)::(171,556)::(174,561)::(188,567)::(192,575)::(196,582)::(210,589)::(213,596)::(216,603)::(225,610)::(229,617)::(246,652)::t
noncomputable def BZ(t:List (Nat×Nat)):List (Nat×Nat):=(265,688)::(424,863)::(429,868)::(433,873)::(438,881)::(450,890)::(452,897)::(454,904)::(461,909)::(470,916)::(472,923)::(475,930)::(484,937)::t
noncomputable def G6(t:List (Nat×Nat)):List (Nat×Nat):=(498,944)::(504,951)::(547,1006)::(551,1013)::(554,1020)::(572,1055)::(609,1107)::(614,1114)::(619,1121)::(625,1128)::(632,1135)::(636,1142)::(650,1149)::(653,1156)::(659,1163)::(661,1170)::t
noncomputable def O1(t:List (Nat×Nat)):List (Nat×Nat):=(664,1177)::(669,1184)::(675,1191)::(680,1198)::(682,1205)::(684,1212)::(693,1220)::(697,1227)::t
noncomputable def o1:Obj:={cls:=vn,data:=Data.fields #[]}
noncomputable def o4(P:Params):Obj:=od 17 (de P "__name__" 165 z1::(xU P<|[]))
noncomputable def o5:Obj:=ol 0 [(1,20),(5,27),(10,48),(14,68),(18,88),(22,108),(26,128),(30,148)]
noncomputable def o23:Obj:={cls:=vt "type",data:=Data.cls {name:=u "ScribeError",bases:=[vt "ValueError"],mro:=[vr 39,vt "ValueError",vt "Exception",vt "BaseException",vt "object"],ns:=38,qualname:=u "ScribeError",subclasses:=[vr 60,vr 80,vr 100,vr 120,vr 140,vr 160]},slots:=#[some (vr 22),none,some XR,some Ww,some (Value.builtin "ValueError.__new__"),some (vb)]}
noncomputable def WT(P:Params):Obj:=od 24 (de P "__name__" 165 z1::(xU P<|rF P<|[]))
noncomputable def Y9:Obj:=ol 0 [(1,20),(5,27),(10,48),(14,68),(18,88),(22,108),(26,128),(30,148),(34,168),(38,188),(42,208),(46,228),(50,248),(54,268),(58,288)]
noncomputable def Xd:Obj:={cls:=vt "type",data:=Data.cls {name:=u "ScribeError",bases:=[vt "ValueError"],mro:=[vr 39,vt "ValueError",vt "Exception",vt "BaseException",vt "object"],ns:=38,qualname:=u "ScribeError",subclasses:=[vr 60,vr 80,vr 100,vr 120,vr 140,vr 160,vr 180,vr 200,vr 220,vr 240,vr 260,vr 280,vr 300]},slots:=#[some (vr 22),none,some XR,some Ww,some (Value.builtin "ValueError.__new__"),some (vb)]}
noncomputable def o200(P:Params):Obj:=od 34 (de P "__name__" 165 z6::(xU P<|rF P<|uM P<|[]))
noncomputable def Yb:Obj:=ol 0 [(1,20),(5,27),(10,48),(14,68),(18,88),(22,108),(26,128),(30,148),(34,168),(38,188),(42,208),(46,228),(50,248),(54,268),(58,288),(62,308),(67,327),(73,346),(78,367),(82,387),(86,407),(94,427)]
noncomputable def yD:Obj:={cls:=vt "type",data:=Data.cls {name:=u "ScribeError",bases:=[vt "ValueError"],mro:=[vr 39,vt "ValueError",vt "Exception",vt "BaseException",vt "object"],ns:=38,qualname:=u "ScribeError",subclasses:=[vr 60,vr 80,vr 100,vr 120,vr 140,vr 160,vr 180,vr 200,vr 220,vr 240,vr 260,vr 280,vr 300,vr 319,vr 338]},slots:=#[some (vr 22),none,some XR,some Ww,some (Value.builtin "ValueError.__new__"),some (vb)]}
noncomputable def WX(P:Params):Obj:=od 63 (de P "__name__" 165 z2::(xU P<|rF P<|uM P<|yz P<|[]))
noncomputable def Z3:Obj:=ol 0 (Gm<|[])
noncomputable def Yt(P:Params):Obj:=od 81 (de P "__name__" 165 z7::(xU P<|rF P<|uM P<|yz P<|Cd P<|[]))
noncomputable def Y7:Obj:=ol 0 (Gm<|BZ<|[])
noncomputable def YJ(P:Params):Obj:=od 102 (de P "__name__" 165 z4::(xU P<|rF P<|uM P<|yz P<|Cd P<|Jg P<|[]))
noncomputable def Xi:Obj:=ol 0 (Gm<|BZ<|G6<|[])
noncomputable def Yw(P:Params):Obj:=od 111 (de P "__name__" 165 z3::(xU P<|rF P<|uM P<|yz P<|Cd P<|Jg P<|J9 P<|[]))
noncomputable def YS:Obj:=ol 0 (Gm<|BZ<|G6<|O1<|[])
noncomputable def Oj(P:Params):Obj:=od 130 (de P "__name__" 165 z5::(xU P<|rF P<|uM P<|yz P<|Cd P<|Jg P<|J9 P<|dr P "_law_begin" 2226 1511::dr P "_law_pick" 2237 1518::dr P "_law_of" 2245 1525::dr P "_law_same" 2251 1530::dr P "_law_word" 2257 1535::dr P "_law_words" 2269 1542::dr P "_law_value" 2280 1549::dr P "_law_number" 2287 1556::dr P "_law_leaf" 2297 1563::dr P "_law_tree" 2309 1570::dr P "_law_parts" 2315 1575::dr P "_law_test" 2325 1582::dr P "_law_passes" 2331 1587::dr P "_law_near_values" 2337 1592::dr P "_law_leaves_any" 2346 1599::dr P "_law_small_fields" 2357 1606::dr P "_law_cast" 2363 1611::dr P "_law_cast_test" 2369 1616::dr P "law" 2375 1621::[]))
noncomputable def Qu:Obj:=ol 0 (Gm<|BZ<|G6<|O1<|(825,1510)::(830,1517)::(845,1524)::(847,1529)::(857,1534)::(863,1541)::(872,1548)::(875,1555)::(877,1562)::(884,1569)::(892,1574)::(896,1581)::(899,1586)::(913,1591)::(923,1598)::(929,1605)::(936,1610)::(944,1615)::(946,1620)::[])
noncomputable def k2:Obj:={cls:=vn,data:=Data.dict #[]}
noncomputable def qK(P:Params)(b c a:Obj)(t:List Obj):List Obj:=boot_o_0 P::boot_o_1 P::b::c::boot_o_4 P::boot_o_5 P::boot_o_6 P::boot_o_7 P::boot_o_8 P::boot_o_9 P::boot_o_10 P::ot #[]::a::oc #[vs "<module>" 182,vs "<module>" 183,vf 184,vi 1 0,vi 0 0,vi 0 0,vi 0 0,vi 0 0,vr 11,Value.bool false,vi 181 0,vr 12,vn,vn,vn,vn,vi 185 0,vi 1 0,vf 186]::{cls:=vt "frame",slots:=#[some (vr 13),some (vr 3),some (vr 3),none,some (vs "__main__" 164),none,some (vr 0)]}::t
noncomputable def um(P:Params)(a:Obj)(t:List Obj):List Obj:=r18 190 ["k"]<|gt "_wall" 0::ok "_wall" 187 188 189 1 1 15 16 (vr 17) (vr 18) (vr 19) 191 192::ft "_wall" 0 vn (vs "__main__" 164) (vr 20)::ot #[vt "ValueError"]::{cls:=vt "builtin_function_or_method",data:=Data.fields #[Value.builtin "type.__prepare__",vt "type"]}::od 5 [de P "__module__" 203 z1,de P "__qualname__" 205 Ww,de P "__firstlineno__" 207 (vi 5 206),dr P "__init__" 218 36,dr P "__static_attributes__" 220 37]::(r27 [(7,35)]<|r4 "ScribeError" 198 5 24 z1<|on 208 ["","scribeerror"]::(r18 213 ["self","words","word"]<|r11 "__init__" "ScribeError.__init__" 2 0 210 7 3 29 216 z1<|r30 P 203 5 36<|a::(r12 221 39<|r31 P 39 233 "BadName" 10 246 57 247<|r27 [(12,56)]<|t)))
noncomputable def uf(P:Params)(t:List Obj):List Obj:=r37 P "BadName" 226 10 43 "BadName.__init__" 3 39 "ValueError" "ValueError.__new__" "BadBounds"<|r27 [(16,76)]<|r37 P "BadBounds" 251 14 63 "BadBounds.__init__" 4 39 "ValueError" "ValueError.__new__" "BadTest"<|r27 [(20,96)]<|t
noncomputable def uh(P:Params)(t:List Obj):List Obj:=r37 P "BadTest" 276 18 83 "BadTest.__init__" 5 39 "ValueError" "ValueError.__new__" "BadSize"<|r27 [(24,116)]<|r37 P "BadSize" 301 22 103 "BadSize.__init__" 6 39 "ValueError" "ValueError.__new__" "BadTime"<|r27 [(28,136)]<|t
noncomputable def ue(P:Params)(t:List Obj):List Obj:=r37 P "BadTime" 326 26 123 "BadTime.__init__" 7 39 "ValueError" "ValueError.__new__" "BadKeys"<|r27 [(32,156)]<|r33 P "BadKeys" 351 30 143 "BadKeys.__init__" 8 39 "ValueError" "ValueError.__new__"<|r6 160<|t
noncomputable def vC(P:Params)(t:List Obj):List Obj:=r31 P 39 383 "BadTie" 34 396 177 397<|r27 [(36,176)]<|r37 P "BadTie" 376 34 163 "BadTie.__init__" 9 39 "ValueError" "ValueError.__new__" "BadCause"<|r27 [(40,196)]<|t
noncomputable def wu(P:Params)(t:List Obj):List Obj:=r37 P "BadCause" 401 38 183 "BadCause.__init__" 10 39 "ValueError" "ValueError.__new__" "Taken"<|r27 [(44,216)]<|r37 P "Taken" 426 42 203 "Taken.__init__" 11 39 "ValueError" "ValueError.__new__" "Full"<|r27 [(48,236)]<|t
noncomputable def wk(P:Params)(t:List Obj):List Obj:=r37 P "Full" 451 46 223 "Full.__init__" 12 39 "ValueError" "ValueError.__new__" "NotTop"<|r27 [(52,256)]<|r37 P "NotTop" 476 50 243 "NotTop.__init__" 13 39 "ValueError" "ValueError.__new__" "Stopped"<|r27 [(56,276)]<|t
noncomputable def wY(P:Params)(t:List Obj):List Obj:=r37 P "Stopped" 501 54 263 "Stopped.__init__" 14 39 "ValueError" "ValueError.__new__" "Busy"<|r27 [(60,296)]<|r33 P "Busy" 526 58 283 "Busy.__init__" 15 39 "ValueError" "ValueError.__new__"<|r6 300<|t
noncomputable def yE(P:Params)(t:List Obj):List Obj:=r31 P 39 558 "BadValue" 62 570 316 572<|r27 [(64,315)]<|r4 "BadValue" 553 62 305 z1<|r19 563 ["self","at"] "__init__" "BadValue.__init__" 16 0 64 2 310 568 z1<|on 571 ["at"]::(r3 P 551 62 570 316 572 "BadValue" 39 "ValueError" 303 "ValueError.__new__"<|r36 P 319 39 583 "Broken" 67 335 599<|r27 [(69,334)]<|r4 "Broken" 578 67 324 z1<|r19 588 ["self","step","why"] "__init__" "Broken.__init__" 17 0 69 3 329 594 z1<|on 597 ["step","why"]::(r3 P 576 67 596 335 599 "Broken" 39 "ValueError" 322 "ValueError.__new__"<|r6 338<|ot #[vt "LookupError"]::t))
noncomputable def yf(P:Params)(t:List Obj):List Obj:=r5 P 610 "Missing" 73 625 355 627<|r27 [(75,354)]<|r4 "Missing" 605 73 343 z1<|on 615 ["","missing"]::(r18 620 ["self","words","word"]<|r11 "__init__" "Missing.__init__" 18 0 617 75 3 348 623 z1<|r30 P 610 73 355<|{cls:=vt "type",data:=Data.cls {name:=u "Missing",bases:=[vt "LookupError"],mro:=[vr 358,vt "LookupError",vt "Exception",vt "BaseException",vt "object"],ns:=357,qualname:=u "Missing",subclasses:=[vr 379,vr 399,vr 419]},slots:=#[some (vr 341),none,some (vs "Missing" 603),some (vs "Missing" 611),some (Value.builtin "LookupError.__new__"),some (vb)]}::(r12 628 358<|r31 P 358 640 "NoLane" 78 653 376 654<|r27 [(80,375)]<|t))
noncomputable def yU(P:Params)(t:List Obj):List Obj:=r37 P "NoLane" 633 78 362 "NoLane.__init__" 19 358 "LookupError" "LookupError.__new__" "NoKind"<|r27 [(84,395)]<|r37 P "NoKind" 658 82 382 "NoKind.__init__" 20 358 "LookupError" "LookupError.__new__" "NoTicket"<|r27 [(88,415)]<|t
noncomputable def yH(P:Params)(t:List Obj):List Obj:=r33 P "NoTicket" 683 86 402 "NoTicket.__init__" 21 358 "LookupError" "LookupError.__new__"<|r6 419<|r22 716 ["text"] "is_name" 26 94 1 422 720 z6<|t
noncomputable def Ah(P:Params)(t:List Obj):List Obj:=r22 723 ["text"] "need_name" 27 96 1 429 727 z6<|r22 730 ["fields","seen","name","low","high"] "need_fields" 28 99 1 436 738 z6<|r2<|r28 "bounds_text" 29 741 108 1 443 z6<|r17<|od 13 [de P "__module__" 754 z6,de P "__qualname__" 756 (vs "Kind" 755),de P "__firstlineno__" 758 (vi 110 757),dr P "__init__" 767 463,dr P "lowest" 773 468,dr P "cells" 780 475,dr P "place_of" 792 482,dr P "need" 805 489,dr P "__eq__" 813 496,dr P "__len__" 820 503,dr P "__str__" 827 510,dr P "__repr__" 834 517,dr P "__static_attributes__" 837 518]::(r27 [(112,462),(120,467),(123,474),(126,481),(132,488),(139,495),(142,502),(145,509),(148,516)]<|r4 "Kind" 749 110 450 z6<|ot #[]::ot #[vr 455]::(r18 762 ["self","name","fields"]<|r11 "__init__" "Kind.__init__" 30 0 759 112 3 456 765 z6<|r2<|r23 "lowest" "Kind.lowest" 30 1 768 120 1 464 z6<|t))
noncomputable def zc(P:Params)(t:List Obj):List Obj:=r20 774 ["self"] "cells" "Kind.cells" 30 2 123 1 469 778 z6 ["self","field","at","name","low","high"] "place_of" "Kind.place_of" 126 2 790<|r20 793 ["self","values","at","name","low","high","value"] "need" "Kind.need" 30 4 132 2 483 803 z6 ["self","other"] "__eq__" "Kind.__eq__" 139 2 811<|t
noncomputable def zp(P:Params)(t:List Obj):List Obj:=r20 814 ["self"] "__len__" "Kind.__len__" 30 6 142 1 497 818 z6 ["self"] "__str__" "Kind.__str__" 145 1 825<|r19 828 ["self"] "__repr__" "Kind.__repr__" 30 8 148 1 511 832 z6<|on 835 ["fields","name"]::od 5 [de P "__module__" 754 z6,de P "__firstlineno__" 758 (vi 110 757),dr P "__init__" 767 463,dr P "lowest" 773 468,dr P "cells" 780 475,dr P "place_of" 792 482,dr P "need" 805 489,dr P "__eq__" 813 496,dr P "__len__" 820 503,dr P "__str__" 827 510,dr P "__repr__" 834 517,dr P "__static_attributes__" 837 518,dr P "__dict__" 839 521,dr P "__weakref__" 841 522,dn P "__doc__" 842,dn P "__hash__" 843]::(r9 "Kind" 519 747 838<|r12 840 520<|r22 859 ["lanes"] "need_lanes" 36 155 1 525 863 z8<|t)
noncomputable def zf(P:Params)(t:List Obj):List Obj:=r22 866 ["lanes","ties","one","other","least"] "need_ties" 37 158 2 532 874 z8<|r22 877 ["most"] "need_most" 38 164 1 539 881 z8<|r22 884 ["lanes","ties","most"] "need_all" 39 167 3 546 890 z8<|r2<|r28 "bounds" 40 893 171 2 553 z8<|r2<|r28 "raised" 41 899 174 2 558 z8<|r38 P 905 99999 848::(r2<|gt "amounts" 42::oc #[vs "amounts" 906,vs "amounts" 907,vf 908,vi 188 0,vi 2 0,vi 0 0,vi 1 0,vi 3 0,vr 564,vb,vi 181 0,vr 565,vn,vn,vn,vr 566,vi 909 0,vi 188 0,vf 910]::{cls:=vt "function",data:=Data.func {name:=u "amounts",qualname:=u "amounts",params:=TA 42,body:=FuncBody.stmts (TB 42),scope:=TS 42,globals:=3,closure:=[],defaults:=vn,kwdefaults:=vr 563,pyModule:=z8,code:=vr 567}}::r38 P 912 99999 848::t)
noncomputable def zx(P:Params)(t:List Obj):List Obj:=r18 916 ["lanes","ties","most","heights","raised_by","still"]<|gt "ring" 43::(r26 "ring" 913 192 569 922 43 z8<|r22 925 ["at","raised_by","many","turn","found"] "ring_behind" 44 196 3 577 933 z8<|r22 950 ["pages"] "need_pages" 52 210 1 584 954 z2<|r22 957 ["room"] "need_room" 53 213 1 591 961 z2<|r22 964 ["events","place","told","event"] "told_from" 54 216 2 598 971 z2<|t)
noncomputable def Ae(P:Params)(t:List Obj):List Obj:=r22 974 ["place","told","thing"] "place_behind" 55 225 2 605 980 z2<|r35 P 990 z2 "Claim" 229 1004 625 "told_at" 1026<|r27 [(231,624),(238,631),(241,638)]<|r4 "Claim" 985 229 614 z2<|r20 995 ["self","ticket","time","kind"] "__init__" "Claim.__init__" 56 0 231 4 619 1002 z2 ["self","place"] "told_at" "Claim.told_at" 238 2 1010<|r19 1013 ["self","other"] "twin" "Claim.twin" 56 2 241 1 633 1018 z2<|on 1021 ["filled","form","given","ticket","time"]::(r34 P 983 z2 229 1004 625 "told_at" 1026 "Claim"<|t)
noncomputable def Av(P:Params)(t:List Obj):List Obj:=r12 1029 642<|r17<|od 8 [de P "__module__" 1041 z2,de P "__qualname__" 1043 (vs "Page" 1042),de P "__firstlineno__" 1045 (vi 246 1044),dr P "__init__" 1052 660,dr P "unclosed" 1058 665,dr P "without" 1064 670,dr P "twin" 1070 675,dr P "__static_attributes__" 1074 676]::(r27 [(248,659),(253,664),(256,669),(259,674)]<|r4 "Page" 1036 246 649 z2<|r19 1046 ["self"] "__init__" "Page.__init__" 57 0 248 1 654 1050 z2<|r2<|r23 "unclosed" "Page.unclosed" 57 1 1053 253 1 661 z2<|r2<|r23 "without" "Page.without" 57 2 1059 256 2 666 z2<|r2<|r23 "twin" "Page.twin" 57 3 1065 259 1 671 z2<|on 1071 ["claims","gone","used"]::od 4 [de P "__module__" 1041 z2,de P "__firstlineno__" 1045 (vi 246 1044),dr P "__init__" 1052 660,dr P "unclosed" 1058 665,dr P "without" 1064 670,dr P "twin" 1070 675,dr P "__static_attributes__" 1074 676,dr P "__dict__" 1076 679,dr P "__weakref__" 1078 680,dn P "__doc__" 1079]::(r9 "Page" 677 1034 1075<|r12 1077 678<|t))
noncomputable def Dm(P:Params)(t:List Obj):List Obj:=r17<|od 28 [de P "__module__" 1089 z2,de P "__qualname__" 1091 (vs "Lane" 1090),de P "__firstlineno__" 1093 (vi 265 1092),dr P "__init__" 1106 697,dr P "claim" 1116 704,dr P "make_room" 1124 711,dr P "eldest" 1131 718,dr P "lose_eldest" 1138 725,dr P "leave" 1148 732,dr P "waiting" 1154 737,dr P "waiting_with" 1163 744,dr P "last_waiting" 1172 751,dr P "fill" 1182 758,dr P "give" 1191 765,dr P "throw" 1202 772,dr P "standing" 1213 779,dr P "look" 1220 786,dr P "take" 1228 793,dr P "hold" 1236 800,dr P "pending" 1242 805,dr P "event" 1251 812,dr P "resize" 1263 819,dr P "counts" 1270 826,dr P "pages_now" 1277 833,dr P "twin" 1283 838,dr P "__len__" 1289 843,dr P "__repr__" 1296 850,dr P "__static_attributes__" 1309 851]::(r27 [(267,696),(283,703),(296,710),(306,717),(309,724),(313,731),(318,736),(321,743),(327,750),(333,757),(338,764),(343,771),(352,778),(364,785),(367,792),(376,799),(381,804),(384,811),(388,818),(399,825),(402,832),(405,837),(418,842),(421,849)]<|r4 "Lane" 1084 265 685 z2<|od 3 [de P "pages" 1094 (vi 4 938),de P "room" 1095 (vi 8 940),de P "over" 1096 (vb)]::(r18 1100 ["self","pages","room","over"]<|r29 "__init__" "Lane.__init__" 58 0 1097 267 1 3 690 1104 z2<|r20 1107 ["self","kind","time","head"] "claim" "Lane.claim" 58 1 283 3 698 1114 z2 ["self","cells"] "make_room" "Lane.make_room" 296 2 1122<|t))
noncomputable def Eg(P:Params)(t:List Obj):List Obj:=r20 1125 ["self"] "eldest" "Lane.eldest" 58 3 306 1 712 1129 z2 ["self"] "lose_eldest" "Lane.lose_eldest" 309 1 1136<|r19 1139 ["self","number","page","later"] "leave" "Lane.leave" 58 5 313 2 726 1146 z2<|r2<|r23 "waiting" "Lane.waiting" 58 6 1149 318 1 733 z2<|r20 1155 ["self","ticket","claim"] "waiting_with" "Lane.waiting_with" 58 7 321 2 738 1161 z2 ["self","ticket","claim"] "last_waiting" "Lane.last_waiting" 327 2 1170<|t
noncomputable def Ez(P:Params)(t:List Obj):List Obj:=r20 1173 ["self","ticket","values","claim"] "fill" "Lane.fill" 58 9 333 3 752 1180 z2 ["self","ticket","claim"] "give" "Lane.give" 338 2 1189<|r20 1192 ["self","ticket","claim","head","page"] "throw" "Lane.throw" 58 11 343 2 766 1200 z2 ["self","events","place","page","claim"] "standing" "Lane.standing" 352 1 1211<|t
noncomputable def Ef(P:Params)(t:List Obj):List Obj:=r20 1214 ["self"] "look" "Lane.look" 58 13 364 1 780 1218 z2 ["self","told"] "take" "Lane.take" 367 1 1226<|r19 1229 ["self","place"] "hold" "Lane.hold" 58 15 376 2 794 1234 z2<|r2<|r23 "pending" "Lane.pending" 58 16 1237 381 1 801 z2<|r20 1243 ["self","ticket","claim"] "event" "Lane.event" 58 17 384 2 806 1249 z2 ["self","pages","first","extra","number","turn"] "resize" "Lane.resize" 388 2 1261<|t
noncomputable def Dv(P:Params)(t:List Obj):List Obj:=r20 1264 ["self"] "counts" "Lane.counts" 58 19 399 1 820 1268 z2 ["self"] "pages_now" "Lane.pages_now" 402 1 1275<|r2<|r23 "twin" "Lane.twin" 58 21 1278 405 1 834 z2<|r2<|r23 "__len__" "Lane.__len__" 58 22 1284 418 1 839 z2<|r19 1290 ["self"] "__repr__" "Lane.__repr__" 58 23 421 1 844 1294 z2<|on 1297 ["given_in","held","last_time","lost","missed","most","over","pages","room","thrown_back","tickets","told"]::od 4 [de P "__module__" 1089 z2,de P "__firstlineno__" 1093 (vi 265 1092),dr P "__init__" 1106 697,dr P "claim" 1116 704,dr P "make_room" 1124 711,dr P "eldest" 1131 718,dr P "lose_eldest" 1138 725,dr P "leave" 1148 732,dr P "waiting" 1154 737,dr P "waiting_with" 1163 744,dr P "last_waiting" 1172 751,dr P "fill" 1182 758,dr P "give" 1191 765,dr P "throw" 1202 772,dr P "standing" 1213 779,dr P "look" 1220 786,dr P "take" 1228 793,dr P "hold" 1236 800,dr P "pending" 1242 805,dr P "event" 1251 812,dr P "resize" 1263 819,dr P "counts" 1270 826,dr P "pages_now" 1277 833,dr P "twin" 1283 838,dr P "__len__" 1289 843,dr P "__repr__" 1296 850,dr P "__static_attributes__" 1309 851,dr P "__dict__" 1311 854,dr P "__weakref__" 1313 855,dn P "__doc__" 1314]::(r9 "Lane" 852 1082 1310<|r12 1312 853<|t)
noncomputable def CK(P:Params)(t:List Obj):List Obj:=r22 1319 ["lane","time","other","second"] "need_cause" 60 424 4 858 1326 Wd<|r2<|r28 "ties_of" 61 1329 429 1 865 Wd<|r2<|r28 "merged" 62 1335 433 2 870 Wd<|r38 P 1341 99999 848::(r18 1345 ["rows","causes","most","ties","least"]<|gt "ordered" 63::(r26 "ordered" 1342 438 875 1350 63 Wd<|od 3 [de P "not" 1359 (vi 1 1360),de P "and" 1361 (vi 2 1362),de P "or" 1363 (vi 2 1364)]::od 2 [de P "less" 1369 (vs "<" 1370),de P "same" 1371 (vs "=" 1372)]::(r22 1376 ["thing"] "is_word" 69 450 1 885 1380 z9<|t)))
noncomputable def Ei(P:Params)(t:List Obj):List Obj:=r22 1383 ["thing"] "is_number" 70 452 1 892 1387 z9<|r22 1390 ["test","form"] "is_leaf" 71 454 1 899 1395 z9<|r2<|r28 "count_parts" 72 1398 461 2 906 z9<|r22 1404 ["test"] "is_test" 73 470 1 911 1408 z9<|r22 1411 ["test"] "need_test" 74 472 1 918 1415 z9<|r22 1418 ["test","kind","values","form"] "passes" 75 475 3 925 1425 z9<|t
noncomputable def Dn(P:Params)(t:List Obj):List Obj:=r22 1428 ["leaf","kind","values","form","place"] "passes_leaf" 76 484 3 932 1436 z9<|t
noncomputable def Fi(P:Params)(t:List Obj):List Obj:=r22 1447 ["keys","at","name"] "need_keys" 81 498 1 939 1453 z7<|r17<|od 10 [de P "__module__" 1463 z7,de P "__qualname__" 1465 (vs "Tally" 1464),de P "__firstlineno__" 1467 (vi 504 1466),dr P "__init__" 1478 960,dr P "note" 1484 965,dr P "table" 1491 972,dr P "dropped" 1498 979,dr P "twin" 1506 986,dr P "__len__" 1513 993,dr P "__static_attributes__" 1519 994]::(r27 [(506,959),(517,964),(529,971),(532,978),(535,985),(541,992)]<|r4 "Tally" 1458 504 948 z7<|r38 P 1468 16 1441::(r18 1472 ["self","test","keys","most"]<|r29 "__init__" "Tally.__init__" 82 0 1469 506 3 1 953 1476 z7<|r2<|r23 "note" "Tally.note" 82 1 1479 517 3 961 z7<|t))
noncomputable def HQ(P:Params)(t:List Obj):List Obj:=r20 1485 ["self"] "table" "Tally.table" 82 2 529 1 966 1489 z7 ["self"] "dropped" "Tally.dropped" 532 1 1496<|r20 1499 ["self","other"] "twin" "Tally.twin" 82 4 535 1 980 1504 z7 ["self"] "__len__" "Tally.__len__" 541 1 1511<|on 1514 ["beyond","counted","most","named","test"]::r39 P 1463 z7 504 1478 960 "note" 965 "table" 1491 "dropped" 1498 "twin" "__len__" 1513 993::(r9 "Tally" 995 1456 1520<|r12 1522 996<|t)
noncomputable def Ge(P:Params)(t:List Obj):List Obj:=r22 1535 ["name","borne"] "need_new" 87 547 2 1001 1540 z4<|r22 1543 ["things","most"] "need_fewer" 88 551 2 1008 1548 z4<|r35 P 1558 z4 "Track" 554 1570 1028 "top" 1590<|r27 [(556,1027),(561,1034),(567,1041)]<|r4 "Track" 1553 554 1017 z4<|r20 1563 ["self","written"] "__init__" "Track.__init__" 89 0 556 2 1022 1568 z4 ["self","tickets"] "top" "Track.top" 561 1 1576<|t
noncomputable def Ip(P:Params)(t:List Obj):List Obj:=r19 1579 ["self","other"] "twin" "Track.twin" 89 2 567 1 1036 1584 z4<|on 1587 ["clock","test","written"]::(r34 P 1551 z4 554 1570 1028 "top" 1590 "Track"<|r12 1593 1045<|r17<|od 10 [de P "__module__" 1605 z4,de P "__qualname__" 1607 (vs "Stand" 1606),de P "__firstlineno__" 1609 (vi 572 1608),dr P "__init__" 1618 1063,dr P "track_of" 1626 1070,dr P "kind_of" 1634 1077,dr P "tally_of" 1642 1084,dr P "looks" 1648 1089,dr P "twin" 1654 1094,dr P "__static_attributes__" 1662 1095]::(r27 [(574,1062),(585,1069),(590,1076),(595,1083),(598,1088),(601,1093)]<|r4 "Stand" 1600 572 1052 z4<|r20 1610 ["self","pages","room"] "__init__" "Stand.__init__" 90 0 574 3 1057 1616 z4 ["self","name"] "track_of" "Stand.track_of" 585 2 1624<|t))
noncomputable def FN(P:Params)(t:List Obj):List Obj:=r20 1627 ["self","name"] "kind_of" "Stand.kind_of" 90 2 590 2 1071 1632 z4 ["self","name"] "tally_of" "Stand.tally_of" 595 2 1640<|r2<|r23 "looks" "Stand.looks" 90 4 1643 598 1 1085 z4<|r2<|r23 "twin" "Stand.twin" 90 5 1649 601 1 1090 z4<|on 1655 ["counters","halting","known","pages","room","still","tracks"]::r39 P 1605 z4 572 1618 1063 "track_of" 1070 "kind_of" 1634 "tally_of" 1642 "looks" "twin" 1654 1094::(r9 "Stand" 1096 1598 1663<|r12 1665 1097<|r22 1670 ["stand","handed","name","fields"] "do_kind" 91 609 2 1102 1677 z4<|t)
noncomputable def G5(P:Params)(t:List Obj):List Obj:=r22 1680 ["stand","handed","name","over"] "do_lane" 92 614 2 1109 1687 z4<|r22 1690 ["stand","handed","name","steps","track"] "do_tick" 93 619 2 1116 1698 z4<|r22 1701 ["stand","handed","name","kind","track","form"] "do_claim" 94 625 2 1123 1710 z4<|r22 1713 ["stand","handed","name","values","track"] "do_fill" 95 632 2 1130 1721 z4<|r22 1724 ["stand","handed","track","ticket","time","kind","values","form","tally"] "do_give" 96 636 2 1137 1736 z4<|t
noncomputable def Gs(P:Params)(t:List Obj):List Obj:=r22 1739 ["stand","handed","track"] "do_throw" 97 650 2 1144 1745 z4<|r22 1748 ["stand","handed","name","kind","values"] "do_write" 98 653 2 1151 1756 z4<|r22 1759 ["stand","handed"] "do_take" 99 659 2 1158 1764 z4<|r22 1767 ["stand","handed","name","pages"] "do_resize" 100 661 2 1165 1774 z4<|t
noncomputable def K9(P:Params)(t:List Obj):List Obj:=r22 1777 ["stand","handed","name","test","track"] "do_sieve" 101 664 2 1172 1785 z4<|r22 1788 ["stand","handed","name","test","keys","tally"] "do_tally" 102 669 2 1179 1797 z4<|r22 1800 ["stand","handed","test"] "do_halt" 103 675 2 1186 1806 z4<|r22 1809 ["stand","handed"] "do_stop" 104 680 2 1193 1814 z4<|r22 1817 ["stand","handed"] "do_go" 105 682 2 1200 1822 z4<|t
noncomputable def JT(P:Params)(t:List Obj):List Obj:=r22 1825 ["stand","handed","told","step","deed","error"] "do_whole" 106 684 2 1207 1834 z4<|od 16 [dr P "kind" 1837 1108,dr P "lane" 1839 1115,dr P "tick" 1841 1122,dr P "claim" 1843 1129,dr P "fill" 1845 1136,dr P "give" 1847 1143,dr P "throw" 1849 1150,dr P "write" 1851 1157,dr P "take" 1853 1164,dr P "resize" 1855 1171,dr P "sieve" 1857 1178,dr P "tally" 1859 1185,dr P "halt" 1861 1192,dr P "stop" 1863 1199,dr P "go" 1865 1206,dr P "whole" 1867 1213]::(r22 1870 ["stand","deed","act"] "perform" 108 693 2 1215 1876 z4<|r17<|od 42 [de P "__module__" 1888 z3,de P "__qualname__" 1890 (vs "Recorder" 1889),de P "__firstlineno__" 1892 (vi 697 1891),dr P "__init__" 1903 1236,dr P "kind" 1912 1245,dr P "lane" 1922 1253,dr P "tick" 1932 1261,dr P "claim" 1941 1268,dr P "fill" 1950 1275,dr P "give" 1958 1282,dr P "throw" 1966 1289,dr P "write" 1976 1296,dr P "take" 1984 1303,dr P "resize" 1993 1310,dr P "sieve" 2002 1317,dr P "tally" 2013 1326,dr P "halt" 2021 1334,dr P "stop" 2028 1341,dr P "go" 2035 1348,dr P "whole" 2043 1355,dr P "do" 2053 1362,dr P "undo" 2060 1369,dr P "redo" 2067 1376,dr P "go_along" 2076 1383,dr P "done" 2082 1388,dr P "twin" 2090 1395,dr P "kinds" 2096 1400,dr P "lanes" 2103 1407,dr P "now" 2111 1414,dr P "test_of" 2119 1421,dr P "look" 2127 1428,dr P "pending" 2135 1435,dr P "counts" 2143 1442,dr P "table" 2151 1449,dr P "dropped" 2159 1456,dr P "tallies" 2166 1463,dr P "stopped" 2173 1470,dr P "halted_by" 2180 1477,dr P "looker" 2188 1484,dr P "order" 2198 1492,dr P "__len__" 2204 1497,dr P "__static_attributes__" 2208 1498]::(r27 [(699,1235),(704,1244),(707,1252),(710,1260),(713,1267),(716,1274),(719,1281),(722,1288),(725,1295),(728,1302),(731,1309),(734,1316),(737,1325),(740,1333),(743,1340),(746,1347),(749,1354),(752,1361),(760,1368),(763,1375),(766,1382),(769,1387),(772,1394),(779,1399),(783,1406),(786,1413),(789,1420),(792,1427),(795,1434),(798,1441),(801,1448),(804,1455),(807,1462),(810,1469),(813,1476),(816,1483),(819,1491),(822,1496)]<|r4 "Recorder" 1883 697 1224 z3<|od 2 [de P "pages" 1893 (vi 4 938),de P "room" 1894 (vi 8 940)]::(r18 1898 ["self","pages","room"]<|r29 "__init__" "Recorder.__init__" 110 0 1895 699 1 2 1229 1901 z3<|ot #[]::ot #[vr 1237]::(r18 1907 ["self","name","fields"]<|r11 "kind" "Recorder.kind" 110 1 1904 704 3 1238 1910 z3<|od 1 [de P "over" 1913 (vb)]::t))))
noncomputable def Mf(P:Params)(t:List Obj):List Obj:=r18 1917 ["self","name","over"]<|r29 "lane" "Recorder.lane" 110 2 1914 707 2 1 1246 1920 z3<|ot #[vi 1 1923]::(r18 1927 ["self","lane","steps"]<|r11 "tick" "Recorder.tick" 110 3 1924 710 3 1254 1930 z3<|r20 1933 ["self","lane","kind"] "claim" "Recorder.claim" 110 4 713 3 1262 1939 z3 ["self","lane","values"] "fill" "Recorder.fill" 716 3 1948<|t)
noncomputable def Kp(P:Params)(t:List Obj):List Obj:=r20 1951 ["self","lane"] "give" "Recorder.give" 110 6 719 2 1276 1956 z3 ["self","lane"] "throw" "Recorder.throw" 722 2 1964<|r20 1967 ["self","lane","kind","values"] "write" "Recorder.write" 110 8 725 4 1290 1974 z3 ["self","lane"] "take" "Recorder.take" 728 2 1982<|t
noncomputable def K_(P:Params)(t:List Obj):List Obj:=r20 1985 ["self","lane","pages"] "resize" "Recorder.resize" 110 10 731 3 1304 1991 z3 ["self","lane","test"] "sieve" "Recorder.sieve" 734 3 2000<|ot #[]::od 1 [dr P "keys" 2003 1318]::(r18 2007 ["self","name","test","keys"]<|r29 "tally" "Recorder.tally" 110 12 2004 737 3 1 1319 2011 z3<|ot #[vn]::(r18 2017 ["self","test"]<|r11 "halt" "Recorder.halt" 110 13 2014 740 2 1327 2019 z3<|t))
noncomputable def Kq(P:Params)(t:List Obj):List Obj:=r20 2022 ["self"] "stop" "Recorder.stop" 110 14 743 1 1335 2026 z3 ["self"] "go" "Recorder.go" 746 1 2033<|r20 2036 ["self","deeds"] "whole" "Recorder.whole" 110 16 749 2 1349 2041 z3 ["self","deed","later","told"] "do" "Recorder.do" 752 2 2051<|t
noncomputable def M7(P:Params)(t:List Obj):List Obj:=r20 2054 ["self"] "undo" "Recorder.undo" 110 18 760 1 1363 2058 z3 ["self"] "redo" "Recorder.redo" 763 1 2065<|r19 2068 ["self","source","goal"] "go_along" "Recorder.go_along" 110 20 766 3 1377 2074 z3<|r2<|r23 "done" "Recorder.done" 110 21 2077 769 1 1384 z3<|r19 2083 ["self","other"] "twin" "Recorder.twin" 110 22 772 1 1389 2088 z3<|r2<|r23 "kinds" "Recorder.kinds" 110 23 2091 779 1 1396 z3<|t
noncomputable def Lb(P:Params)(t:List Obj):List Obj:=r20 2097 ["self"] "lanes" "Recorder.lanes" 110 24 783 1 1401 2101 z3 ["self","lane"] "now" "Recorder.now" 786 2 2109<|r20 2112 ["self","lane"] "test_of" "Recorder.test_of" 110 26 789 2 1415 2117 z3 ["self","lane"] "look" "Recorder.look" 792 2 2125<|t
noncomputable def JV(P:Params)(t:List Obj):List Obj:=r20 2128 ["self","lane"] "pending" "Recorder.pending" 110 28 795 2 1429 2133 z3 ["self","lane"] "counts" "Recorder.counts" 798 2 2141<|r20 2144 ["self","name"] "table" "Recorder.table" 110 30 801 2 1443 2149 z3 ["self","name"] "dropped" "Recorder.dropped" 804 2 2157<|t
noncomputable def JC(P:Params)(t:List Obj):List Obj:=r20 2160 ["self"] "tallies" "Recorder.tallies" 110 32 807 1 1457 2164 z3 ["self"] "stopped" "Recorder.stopped" 810 1 2171<|r20 2174 ["self"] "halted_by" "Recorder.halted_by" 110 34 813 1 1471 2178 z3 ["self","lane"] "looker" "Recorder.looker" 816 2 2186<|r38 P 2189 99999 848::(r18 2193 ["self","causes","most"]<|r29 "order" "Recorder.order" 110 36 2190 819 2 1 1485 2196 z3<|r2<|t)
noncomputable def Br(P:Params)(t:List Obj):List Obj:=r23 "__len__" "Recorder.__len__" 110 37 2199 822 1 1493 z3<|on 2205 ["past","stand","undone"]::od 4 [de P "__module__" 1888 z3,de P "__firstlineno__" 1892 (vi 697 1891),dr P "__init__" 1903 1236,dr P "kind" 1912 1245,dr P "lane" 1922 1253,dr P "tick" 1932 1261,dr P "claim" 1941 1268,dr P "fill" 1950 1275,dr P "give" 1958 1282,dr P "throw" 1966 1289,dr P "write" 1976 1296,dr P "take" 1984 1303,dr P "resize" 1993 1310,dr P "sieve" 2002 1317,dr P "tally" 2013 1326,dr P "halt" 2021 1334,dr P "stop" 2028 1341,dr P "go" 2035 1348,dr P "whole" 2043 1355,dr P "do" 2053 1362,dr P "undo" 2060 1369,dr P "redo" 2067 1376,dr P "go_along" 2076 1383,dr P "done" 2082 1388,dr P "twin" 2090 1395,dr P "kinds" 2096 1400,dr P "lanes" 2103 1407,dr P "now" 2111 1414,dr P "test_of" 2119 1421,dr P "look" 2127 1428,dr P "pending" 2135 1435,dr P "counts" 2143 1442,dr P "table" 2151 1449,dr P "dropped" 2159 1456,dr P "tallies" 2166 1463,dr P "stopped" 2173 1470,dr P "halted_by" 2180 1477,dr P "looker" 2188 1484,dr P "order" 2198 1492,dr P "__len__" 2204 1497,dr P "__static_attributes__" 2208 1498,dr P "__dict__" 2210 1501,dr P "__weakref__" 2212 1502,dn P "__doc__" 2213]::(r9 "Recorder" 1499 1881 2209<|r12 2211 1500<|t)
noncomputable def Pa(P:Params)(t:List Obj):List Obj:=r22 2218 ["_law_script","_law_seed","_law_cell"] "_law_begin" 112 825 1 1505 2224 z5<|r22 2227 ["_law_d","_law_many","_law_cell","_law_digit","_law_one"] "_law_pick" 113 830 2 1512 2235 z5<|r22 2238 ["_law_d","_law_things"] "_law_of" 114 845 2 1519 2243 z5<|r2<|r28 "_law_same" 115 2246 847 2 1526 z5<|r2<|r28 "_law_word" 116 2252 857 1 1531 z5<|r22 2258 ["_law_d","_law_many","_law_found","_law_k","_law_word_here","_law_step"] "_law_words" 117 863 2 1536 2267 z5<|t
noncomputable def Qe(P:Params)(t:List Obj):List Obj:=r22 2270 ["_law_d","_law_field","_law_title","_law_low","_law_high"] "_law_value" 118 872 2 1543 2278 z5<|r22 2281 ["_law_d"] "_law_number" 119 875 1 1550 2285 z5<|r22 2288 ["_law_d","_law_names","_law_kinds","_law_way"] "_law_leaf" 120 877 3 1557 2295 z5<|r22 2298 ["_law_d","_law_deep","_law_names","_law_kinds","_law_way","_law_word_here"] "_law_tree" 121 884 4 1564 2307 z5<|r2<|r28 "_law_parts" 122 2310 892 1 1571 z5<|r22 2316 ["_law_d","_law_names","_law_kinds","_law_test_here"] "_law_test" 123 896 3 1576 2323 z5<|t
noncomputable def Ov(P:Params)(t:List Obj):List Obj:=r2<|r28 "_law_passes" 124 2326 899 4 1583 z5<|r2<|r28 "_law_near_values" 125 2332 913 3 1588 z5<|r22 2338 ["_law_test_here","_law_found","_law_part"] "_law_leaves_any" 126 923 1 1593 2344 z5<|r22 2347 ["_law_d","_law_names","_law_found","_law_title","_law_low"] "_law_small_fields" 127 929 1 1600 2355 z5<|r2<|r28 "_law_cast" 128 2358 936 1 1607 z5<|r2<|r28 "_law_cast_test" 129 2364 944 2 1612 z5<|r2<|r28 "law" 130 2370 946 1 1617 z5<|t
noncomputable def Xy(P:Params)(t:List Obj):List Obj:=qK P k2 (Oj P) Qu t
noncomputable def Xe(P:Params)(t:List Obj):List Obj:=um P yD t
noncomputable def nt(k:Nat):List Obj->Obj:=Nat.rec (λl=>List.rec (ot #[]) (λo _ _=>o) l) (λ_ a l=>List.rec (ot #[]) (λ_ t _=>a t) l) k
local macro_rules|`(#v[$xs,*])=>do
 let mut t<-`([])
 for x in xs.getElems.reverse do
  let`($f:ident $as*):=x|Lean.Macro.throwUnsupported
  let n:=as.map λa=>a.raw.isNatLit?.getD 0
  let mut l:=#[]
  let mut p:=0
  for i in[1:n.size] do
   if i%2==0 then for j in[0:n[i]!] do l:=l.push (p+j)
   p:=p+n[i]!
  for k in l.reverse do t<-`((nat_lit $(Lean.Syntax.mkNumLit (toString (n[0]!+k))),nt $(Lean.Syntax.mkNumLit (toString k)) ($f P []))::$t)
 `(λP=>$t)
noncomputable def KK:Params->Frag:=#v[Xy 0 2 2,Xe 15 0 1 1 2 1 3 6 2 1 2 1 6 2 1,uf 48 2 2 1 2 1 5 2 1 6 2 1 2 1 5 2 1,uh 88 2 2 1 2 1 5 2 1 6 2 1 2 1 5 2 1,ue 128 2 2 1 2 1 5 2 1 6 2 1 2 1 5,vC 163 0 1 6 2 1 2 1 5 2 1,wu 188 2 2 1 2 1 5 2 1 6 2 1 2 1 5 2 1,wk 228 2 2 1 2 1 5 2 1 6 2 1 2 1 5 2 1,wY 268 2 2 1 2 1 5 2 1 6 2 1 2 1 5,yE 303 0 1 6 1 1 2 1 5 2 1 6 1 1 2 1 5 2 1,yf 342 6 2 1 2 1 6 2 1,yU 367 2 2 1 2 1 5 2 1 6 2 1 2 1 5 2 1,yH 407 2 2 1 2 1 5 2 1 1 2 1 2,Ah 429 0 1 1 2 1 3 1 2 1 3 2 2 7 3 1 2 1 3 2 2,zc 469 0 1 1 2 1 3 1 2 1 3 1 2 1 3 1 2 1 2,zp 497 0 1 1 2 1 3 1 2 1 3 1 2 1 7 2 1 1 2 1 2,zf 532 0 1 1 2 1 3 1 2 1 3 1 2 1 3 2 3 2 4 2 3,zx 570 0 1 1 2 1 3 1 2 1 3 1 2 1 3 1 2 1 3 1 2 1 2,Ae 605 0 1 1 2 1 2 7 1 1 2 1 3 1 2 1 3 1 2 1 6,Av 644 0 1 9 1 1 2 1 3 2 3 2 3 2 7,Dm 683 7 2 1 2 1 3 1 2 1 3 1 2 1 2,Eg 712 0 1 1 2 1 3 1 2 1 3 1 2 1 3 2 3 1 2 1 3 1 2 1 2,Ez 752 0 1 1 2 1 3 1 2 1 3 1 2 1 3 1 2 1 2,Ef 780 0 1 1 2 1 3 1 2 1 3 1 2 1 3 2 3 1 2 1 3 1 2 1 2,Dv 820 0 1 1 2 1 3 1 2 1 3 2 3 2 3 1 2 1 7,CK 858 0 1 1 2 1 3 2 3 2 4 1 2 1 5 1 2 1 2,Ei 892 0 1 1 2 1 3 1 2 1 3 2 3 1 2 1 3 1 2 1 3 1 2 1 2,Dn 932 0 1 1 2 1 2,Fi 939 0 1 1 2 1 2 7 2 1 2 1 3 2 2,HQ 966 0 1 1 2 1 3 1 2 1 3 1 2 1 3 1 2 1 7,Ge 1001 0 1 1 2 1 3 1 2 1 2 7 1 1 2 1 3 1 2 1 2,Ip 1036 0 1 1 2 1 7 9 1 1 2 1 3 1 2 1 2,FN 1071 0 1 1 2 1 3 1 2 1 3 2 3 2 7 2 1 1 2 1 2,G5 1109 0 1 1 2 1 3 1 2 1 3 1 2 1 3 1 2 1 3 1 2 1 2,Gs 1144 0 1 1 2 1 3 1 2 1 3 1 2 1 3 1 2 1 2,K9 1172 0 1 1 2 1 3 1 2 1 3 1 2 1 3 1 2 1 3 1 2 1 2,JT 1207 0 1 1 2 1 4 1 2 1 2 7 2 1 2 1 5 1 2 1 3,Mf 1247 0 1 1 2 1 4 1 2 1 3 1 2 1 3 1 2 1 2,Kp 1276 0 1 1 2 1 3 1 2 1 3 1 2 1 3 1 2 1 2,K_ 1304 0 1 1 2 1 3 1 2 1 5 1 2 1 4 1 2 1 2,Kq 1335 0 1 1 2 1 3 1 2 1 3 1 2 1 3 1 2 1 2,M7 1363 0 1 1 2 1 3 1 2 1 3 1 2 1 3 2 3 1 2 1 3 2 2,Lb 1401 0 1 1 2 1 3 1 2 1 3 1 2 1 3 1 2 1 2,JV 1429 0 1 1 2 1 3 1 2 1 3 1 2 1 3 1 2 1 2,JC 1457 0 1 1 2 1 3 1 2 1 3 1 2 1 3 1 2 1 4 1 2 1 3,Br 1495 1 7,Pa 1505 0 1 1 2 1 3 1 2 1 3 1 2 1 3 2 3 2 3 1 2 1 2,Qe 1543 0 1 1 2 1 3 1 2 1 3 1 2 1 3 1 2 1 3 2 3 1 2 1 2,Ov 1583 0 1 2 3 2 3 1 2 1 3 1 2 1 3 2 3 2 3 2 2]
noncomputable def Wv:List Addr:=(KK {strHash:=λ_=>0,shareClass:=λ_=>0,mergeTok:=λx=>x,idOf:=λ_=>0,idOfShared:=λ_ _=>0,followText:=λ_=>true,idOfImm:=λ_=>0}).map (·.1)
def eK:∀P,Wv=(KK P).map (·.1):=λP=>by kernel_rfl
noncomputable def vw:Program:={PySem.Challenge.pw_lanescribe_k42_whole_tests_let_events_by with main:={PySem.Challenge.pw_lanescribe_k42_whole_tests_let_events_by.main with body:=[tp 0,tp 2,tp 3,tp 4,tp 5,tp 6,tp 7,tp 8,tp 9,tp 10,tp 11,tp 12,tp 13,tp 14,tp 15,tp 16,tp 17,tp 18,tp 19,tp 20,tp 21,tp 23,tp 24,tp 25,tp 26,tp 27,tp 28,tp 29,tp 30,tp 32,tp 33,tp 34,tp 35,tp 36,tp 37,tp 38,tp 39,tp 40,tp 41,tp 44,tp 46,tp 47,tp 48,tp 49,tp 50,tp 51,tp 52,tp 53,tp 54,tp 55,tp 56,tp 57,tp 58,tp 60,tp 61,tp 62,tp 65,tp 66,tp 67,tp 68,tp 69,tp 70,tp 71,tp 72,tp 73,tp 74,tp 75,tp 76,tp 78,tp 79,tp 80,tp 81,tp 82,tp 84,tp 85,tp 86,tp 87,tp 88,tp 89,tp 90,tp 91,tp 92,tp 93,tp 94,tp 95,tp 96,tp 97,tp 98,tp 99,tp 100,tp 101,tp 102,tp 103,tp 104,tp 105,tp 106,tp 107,tp 108,tp 110,tp 112,tp 113,tp 114,tp 115,tp 116,tp 117,tp 118,tp 119,tp 120,tp 121,tp 122,tp 123,tp 124,tp 125,tp 126,tp 127,tp 128,tp 129,tp 130]}}
noncomputable def ls:List Str:=[u "ScribeError",u "BadName",u "BadBounds",u "BadTest",u "BadSize",u "BadTime",u "BadKeys",u "BadTie",u "BadCause",u "Taken",u "Full",u "NotTop",u "Stopped",u "Busy",u "Missing",u "NoLane",u "NoKind",u "NoTicket",u "Kind",u "HIGHEST_MOST",u "amounts",u "ring",u "Lane",u "ordered",u "WITHIN",u "SIGN_OF",u "Tally",u "DEEDS",u "Recorder"]
noncomputable def lv:List (Str×WData):=[(u "HIGHEST_MOST",WData.int 1000000000000)]
abbrev Xt:Shared->Bool:=λs=>xlAt vw lv s&&recOk (RowW.records (OpenRow.toRowW PySem.Challenge.rw_lanescribe_k42_whole_tests_let_events_by.row)) s
abbrev hk:Hook:=kmHook KK Wv eK [871]
def ba{a b:Bool}(h:a=true)(c:b=true):(a&&b)=true:=by rw[h,c];rfl
abbrev lw:=PySem.Challenge.rw_lanescribe_k42_whole_tests_let_events_by
def Xp:namesResolve lw.row.prog=true:=by kernel_rfl
def WY:(lw.row.prog.boundNames.all λn=>!worldNames.contains n)=true:=by kernel_rfl
def Y8:noRoadLSs {strict:=!(importedModules lw.row.prog.main.body).all cThrough.contains,foot:=none,bare:=List.filter (readsOut lw.row.prog lw.row.prog.main.body) [Str.ofString "vars",Str.ofString "dir",Str.ofString "locals"]} lw.row.prog.main.body=true:=by kernel_rfl
def YG:(namesMeet lw.row.prog lw.row.prog.main.body λ_ n=>attrL n)=true:=by kernel_rfl
def X7:looksOpen lw.row.prog=true:=ba (ba (ba (ba (by kernel_rfl) Xp) WY) Y8) YG
def YX:lw.row.wellSaid=true:=ba (ba (ba (ba (ba (ba (ba (ba (ba (ba (ba (ba (ba (ba (ba X7 (by kernel_rfl)) (by kernel_rfl)) (by kernel_rfl)) (by kernel_rfl)) (by kernel_rfl)) (by kernel_rfl)) (by kernel_rfl)) (by kernel_rfl)) (by kernel_rfl)) (by kernel_rfl)) (by kernel_rfl)) (by kernel_rfl)) (by kernel_rfl)) (by kernel_rfl)) (by kernel_rfl)
def Ye:(lw.bound'.all λn=>!builtinNamed n||lw.about==[n]||!lw.reads n)=true:=by kernel_rfl
def Yr:(namesMeet lw.prog lw.above λ_ n=>!lw.own.contains n)=true:=by kernel_rfl
def said:PySem.Challenge.rw_lanescribe_k42_whole_tests_let_events_by.wellSaid=true:=ba (ba (ba (ba (ba (ba (ba (ba (ba (ba (ba (ba (ba (ba (ba (ba (ba (ba YX (by kernel_rfl)) (by kernel_rfl)) (by kernel_rfl)) (by kernel_rfl)) (by kernel_rfl)) (by kernel_rfl)) (by kernel_rfl)) (by kernel_rfl)) (by kernel_rfl)) Ye) (by kernel_rfl)) (by kernel_rfl)) (by kernel_rfl)) (by kernel_rfl)) (by kernel_rfl)) (by kernel_rfl)) Yr) (by kernel_rfl)
def openP:opening (OpenRow.toRowW PySem.Challenge.rw_lanescribe_k42_whole_tests_let_events_by.row).prog=plainProg (OpenRow.toRowW PySem.Challenge.rw_lanescribe_k42_whole_tests_let_events_by.row).prog.main.scope.names:=by kernel_rfl
theorem Gp{p:Program}{w:World}{N L:Nat}{s0 d:Shared}{f:Thread}{c:Nat}{b:Option Value}{g:Type}{F:Shared->g}{X:g}(h:(s0.heap.isNs mainGlobals&&s0.gens.size==0)=true)(i:s0.heap.objs.size=c)(j:s0.heap.nsMap mainGlobals "__annotations__"=b)
 (chain:∀r,topRun treeTable p w c b L d f=some r->topRun treeTable p w c b N s0 (topStub p)=some r)
 (last:((topRun treeTable p w c b L d f).bind λa=>match staticsOk (importedModules p.main.body) s0.heap a.heap&&namesBound p a.heap&&gensDone a&&laidKept s0.heap a.heap with
  |true=>some a
  |false=>none).map F=some X):(topFrom treeTable p w N s0).map F=some X:=by
 cases hA:topRun treeTable p w c b L d f with
 |none=>rw[hA]at last;cases last
 | some r=>have e:=chain r hA;unfold topFrom;rw[h,i,j,e];rw[hA]at last;exact last
abbrev pp:Program:=(OpenRow.toRowW PySem.Challenge.rw_lanescribe_k42_whole_tests_let_events_by.row).prog
noncomputable def env:Env:={scope:=pp.main.scope,locals:=mainNs,globals:=mainNs,cells:=[],code:=vr 13,frame:=some 14}
abbrev cd:Code:=.body (behindTheImports pp) env
noncomputable abbrev fp:Pos:={line:=0,col:=0,endLine:=0,endCol:=0}
abbrev an:Option Value:=some (vr 6)
abbrev Jl(w:World)(a:OsState):Shared:=⟨boot_heap w.params,Array.mk [],boot_drawn,boot_toks,a⟩
noncomputable def Zr(P:Params):Heap:=⟨⟨qK P (boot_o_2 P) (boot_o_3 P) o1<|[]⟩,{}⟩
abbrev Z8(w:World)(a:OsState):Shared:=⟨Zr w.params,Array.mk [],{},187,a⟩
noncomputable abbrev Zd:Pos:={line:=0,col:=0,endLine:=0,endCol:=0}
noncomputable def h_b(P:Params):Heap:=⟨⟨qK P (boot_o_2 P) (boot_o_3 P) o1<|[]⟩,{}⟩
abbrev Z1(w:World)(a:OsState):Shared:=⟨h_b w.params,Array.mk [],{},187,a⟩
noncomputable abbrev Yi:Pos:={line:=0,col:=0,endLine:=0,endCol:=0}
noncomputable def bt(l:List Obj):BT:=(l.foldl (λ(a:BT×Nat)o=>(a.1.ins a.2 o,a.2+1)) (.nil,0)).1
noncomputable def Js(s:Shared):SharedT:=⟨bt s.heap.objs.toList,s.heap.objs.size,s.heap.life,s.gens,s.drawn,s.toks,s.os⟩
theorem xG{tb p w n₀ ann b n s s' t f c q}(d:(Js s).abs=s)(h:(segRunT tb p w n₀ ann b n (Js s) t).map (λr=>(r.1,r.2.1.abs,r.2.2))=some (f,s',c,q)):segRun tb p w n₀ ann b n s t=some (f,s',c,q):=by
 cases e:segRunT tb p w n₀ ann b n (Js s) t with
 |none=>rw[e]at h;cases h
 | some r=>obtain⟨g,a,i,j⟩:=r;have k:=segRun_of e;rw[d]at k;rw[e]at h;cases h;exact k
def ZW(w:World)(a:OsState):topGo treeTable pp w 11 an 12 (Jl w a) (topStub pp)=some (Z8 w a,⟨denote treeTable cd,cd,Zd,[topFrame fp]⟩):=by kernel_rfl
def r_b(w:World)(a:OsState):segRun treeTable pp w 11 an 1 1 (Z8 w a) (blockOf (behindTheImports pp) env cd Zd [topFrame fp])=some (.next,Z1 w a,cd,Yi):=by kernel_rfl
noncomputable def Z5(P:Params):Heap:=⟨⟨qK P (boot_o_2 P) (o4 P) o5<|um P o23<|uf P<|uh P<|ue P<|[]⟩,{}⟩
abbrev Vv(w:World)(a:OsState):Shared:=⟨Z5 w.params,Array.mk [],{},376,a⟩
noncomputable abbrev RT:Pos:={line:=30,col:=0,endLine:=33,endCol:=52}
abbrev Y4:List Stmt:=((behindTheImports pp).drop 0).take 9
def r_9(w:World)(a:OsState):segRun treeTable pp w 11 an 1 1737 (Z1 w a) (piecesOf Y4 env cd Yi [topFrame fp])=some (.next,Vv w a,cd,RT):=xG (by kernel_rfl) (by kernel_rfl)
noncomputable def RJ(P:Params):Heap:=⟨⟨qK P (boot_o_2 P) (WT P) Y9<|um P Xd<|uf P<|uh P<|ue P<|vC P<|wu P<|wk P<|wY P<|[]⟩,{}⟩
abbrev Nv(w:World)(a:OsState):Shared:=⟨RJ w.params,Array.mk [],{},551,a⟩
noncomputable abbrev NK:Pos:={line:=58,col:=0,endLine:=61,endCol:=49}
abbrev Q0:List Stmt:=((behindTheImports pp).drop 9).take 7
def WR(w:World)(a:OsState):segRun treeTable pp w 11 an 1 1723 (Vv w a) (piecesOf Q0 env cd RT [topFrame fp])=some (.next,Nv w a,cd,NK):=xG (by kernel_rfl) (by kernel_rfl)
noncomputable def UV(P:Params):Heap:=⟨⟨qK P (boot_o_2 P) (o200 P) Yb<|um P yD<|uf P<|uh P<|ue P<|vC P<|wu P<|wk P<|wY P<|yE P<|yf P<|yU P<|yH P<|[]⟩,{}⟩
abbrev Nb(w:World)(a:OsState):Shared:=⟨UV w.params,Array.mk [],{},723,a⟩
noncomputable abbrev Nt:Pos:={line:=94,col:=0,endLine:=95,endCol:=93}
abbrev Q5:List Stmt:=((behindTheImports pp).drop 16).take 11
def Z0(w:World)(a:OsState):segRun treeTable pp w 11 an 1 1518 (Nv w a) (piecesOf Q5 env cd NK [topFrame fp])=some (.next,Nb w a,cd,Nt):=xG (by kernel_rfl) (by kernel_rfl)
noncomputable def Uh(P:Params):Heap:=⟨⟨qK P (boot_o_2 P) (WX P) Z3<|um P yD<|uf P<|uh P<|ue P<|vC P<|wu P<|wk P<|wY P<|yE P<|yf P<|yU P<|yH P<|Ah P<|zc P<|zp P<|zf P<|zx P<|Ae P<|Av P<|[]⟩,{}⟩
abbrev Nf(w:World)(a:OsState):Shared:=⟨Uh w.params,Array.mk [],{},1082,a⟩
noncomputable abbrev Np:Pos:={line:=246,col:=0,endLine:=264,endCol:=20}
abbrev Qt:List Stmt:=((behindTheImports pp).drop 27).take 31
def YQ(w:World)(a:OsState):segRun treeTable pp w 11 an 1 1699 (Nb w a) (piecesOf Qt env cd Nt [topFrame fp])=some (.next,Nf w a,cd,Np):=xG (by kernel_rfl) (by kernel_rfl)
noncomputable def RN(P:Params):Heap:=⟨⟨qK P (boot_o_2 P) (Yt P) Y7<|um P yD<|uf P<|uh P<|ue P<|vC P<|wu P<|wk P<|wY P<|yE P<|yf P<|yU P<|yH P<|Ah P<|zc P<|zp P<|zf P<|zx P<|Ae P<|Av P<|Dm P<|Eg P<|Ez P<|Ef P<|Dv P<|CK P<|Ei P<|Dn P<|[]⟩,{}⟩
abbrev NB(w:World)(a:OsState):Shared:=⟨RN w.params,Array.mk [],{},1443,a⟩
noncomputable abbrev Nk:Pos:={line:=495,col:=0,endLine:=495,endCol:=9}
abbrev Qw:List Stmt:=((behindTheImports pp).drop 58).take 21
def Xn(w:World)(a:OsState):segRun treeTable pp w 11 an 1 1501 (Nf w a) (piecesOf Qw env cd Np [topFrame fp])=some (.next,NB w a,cd,Nk):=by(revert w a;refine(byRow2 "special-get-raises" ?_ ?_:∀w,_)<;>(intro w a;exact xG (by kernel_rfl) (by kernel_rfl)))
noncomputable def Pq(P:Params):Heap:=⟨⟨qK P (boot_o_2 P) (YJ P) Xi<|um P yD<|uf P<|uh P<|ue P<|vC P<|wu P<|wk P<|wY P<|yE P<|yf P<|yU P<|yH P<|Ah P<|zc P<|zp P<|zf P<|zx P<|Ae P<|Av P<|Dm P<|Eg P<|Ez P<|Ef P<|Dv P<|CK P<|Ei P<|Dn P<|Fi P<|HQ P<|Ge P<|Ip P<|FN P<|G5 P<|Gs P<|[]⟩,{}⟩
abbrev Hw(w:World)(a:OsState):Shared:=⟨Pq w.params,Array.mk [],{},1777,a⟩
noncomputable abbrev Hd:Pos:={line:=661,col:=0,endLine:=663,endCol:=46}
abbrev FQ:List Stmt:=((behindTheImports pp).drop 79).take 22
def Vg(w:World)(a:OsState):segRun treeTable pp w 11 an 1 1532 (NB w a) (piecesOf FQ env cd Nk [topFrame fp])=some (.next,Hw w a,cd,Hd):=xG (by kernel_rfl) (by kernel_rfl)
noncomputable def Qi(P:Params):Heap:=⟨⟨qK P (boot_o_2 P) (Yw P) YS<|um P yD<|uf P<|uh P<|ue P<|vC P<|wu P<|wk P<|wY P<|yE P<|yf P<|yU P<|yH P<|Ah P<|zc P<|zp P<|zf P<|zx P<|Ae P<|Av P<|Dm P<|Eg P<|Ez P<|Ef P<|Dv P<|CK P<|Ei P<|Dn P<|Fi P<|HQ P<|Ge P<|Ip P<|FN P<|G5 P<|Gs P<|K9 P<|JT P<|Mf P<|Kp P<|K_ P<|Kq P<|M7 P<|Lb P<|JV P<|JC P<|Br P<|[]⟩,{}⟩
abbrev Hs(w:World)(a:OsState):Shared:=⟨Qi w.params,Array.mk [],{},2216,a⟩
noncomputable abbrev G7:Pos:={line:=697,col:=0,endLine:=823,endCol:=99}
abbrev Ij:List Stmt:=((behindTheImports pp).drop 101).take 10
def Vt(w:World)(a:OsState):segRun treeTable pp w 11 an 1 1948 (Hw w a) (piecesOf Ij env cd Hd [topFrame fp])=some (.next,Hs w a,cd,G7):=by(revert w a;refine(byRow2 "special-get-raises" ?_ ?_:∀w,_)<;>(intro w a;exact xG (by kernel_rfl) (by kernel_rfl)))
noncomputable def PN(P:Params):Heap:=⟨⟨qK P (boot_o_2 P) (Oj P) Qu<|um P yD<|uf P<|uh P<|ue P<|vC P<|wu P<|wk P<|wY P<|yE P<|yf P<|yU P<|yH P<|Ah P<|zc P<|zp P<|zf P<|zx P<|Ae P<|Av P<|Dm P<|Eg P<|Ez P<|Ef P<|Dv P<|CK P<|Ei P<|Dn P<|Fi P<|HQ P<|Ge P<|Ip P<|FN P<|G5 P<|Gs P<|K9 P<|JT P<|Mf P<|Kp P<|K_ P<|Kq P<|M7 P<|Lb P<|JV P<|JC P<|Br P<|Pa P<|Qe P<|Ov P<|[]⟩,{}⟩
abbrev wJ(w:World)(a:OsState):Shared:=⟨PN w.params,Array.mk [],{},2376,a⟩
noncomputable abbrev wG:Pos:={line:=946,col:=0,endLine:=975,endCol:=117}
abbrev Gz:List Stmt:=((behindTheImports pp).drop 111).take 20
def VG(w:World)(a:OsState):segRun treeTable pp w 11 an 1 570 (Hs w a) (piecesOf Gz env cd G7 [topFrame fp])=some (.next,wJ w a,cd,wG):=by(revert w a;refine(byRow2 "special-get-raises" ?_ ?_:∀w,_)<;>(intro w a;exact xG (by kernel_rfl) (by kernel_rfl)))
abbrev Vx:List Stmt:=(behindTheImports pp).drop 131
def Vn:behindTheImports pp=(Y4++(Q0++(Q5++(Qt++(Qw++(FQ++(Ij++(Gz++Vx)))))))):=by kernel_rfl
noncomputable def h_z(P:Params):Heap:=⟨⟨qK P (boot_o_2 P) (Oj P) Qu<|um P yD<|uf P<|uh P<|ue P<|vC P<|wu P<|wk P<|wY P<|yE P<|yf P<|yU P<|yH P<|Ah P<|zc P<|zp P<|zf P<|zx P<|Ae P<|Av P<|Dm P<|Eg P<|Ez P<|Ef P<|Dv P<|CK P<|Ei P<|Dn P<|Fi P<|HQ P<|Ge P<|Ip P<|FN P<|G5 P<|Gs P<|K9 P<|JT P<|Mf P<|Kp P<|K_ P<|Kq P<|M7 P<|Lb P<|JV P<|JC P<|Br P<|Pa P<|Qe P<|Ov P<|[]⟩,{}⟩
abbrev Jm(w:World)(a:OsState):Shared:=⟨h_z w.params,Array.mk [],{},2376,a⟩
def ZK(w:World)(a:OsState):topRun treeTable pp w 11 an 501 (wJ w a) (restOf Vx env cd wG [topFrame fp])=some (Jm w a):=by kernel_rfl
def ZC(w:World)(a:OsState):staticsOk (importedModules pp.main.body) (Jl w a).heap (Jm w a).heap=true:=by kernel_rfl
def q_2(w:World)(a:OsState):namesBound pp (Jm w a).heap=true:=by kernel_rfl
def q_3(w:World)(a:OsState):gensDone (Jm w a)=true:=by kernel_rfl
def ZF(w:World)(a:OsState):laidKept (Jl w a).heap (Jm w a).heap=true:=by kernel_rfl
abbrev HA(q:Program)(l:List Str)(s:Shared):Prop:=PyProof.Rows.seen ((PyProof.Rows.recsOf q).map (·.name)) (PyProof.Rows.ownsOf q) [] {s with gens:=#[]}=PyProof.Rows.expectedOf q/\s.heap.bltView=bltViewBooted/\s.heap.keysOk (looseW q l) ((PyProof.Rows.recsOf q).map (·.name)) ((PyProof.Rows.litsOf q).map (·.1)) ((PyProof.Rows.clssOf q (looseW q l)).map (·.name))=true
abbrev HB(q:Program)(s:Shared):Prop:=PyProof.Rows.tabsOk q s=true/\wideSeen q s=wideGood q
def ZV{q:Program}{l m:List Str}{Xt:Shared->Bool}{s:Shared}(a:HA q l s)(b:HB q s)(k2:s.heap.accountedOkI m=true)(c:s.heap.isNs mainGlobals=true)(d:s.heap.isNs builtinsNs=true)(e:PyProof.Rows.tablesOk q s.heap=true)(f:Xt s=true)(g:(s.gens.size==0)=true)(h:pinSeenD q (PyProof.Rows.drecsOf q) s=pinGoodD (PyProof.Rows.drecsOf q))(i:PyProof.Rows.plainSeenE q (looseW q l) s=PyProof.Rows.plainGoodE q (looseW q l))(j:PyProof.Rows.plainSeenD q l s=PyProof.Rows.plainGoodD q l)(n:clsSeenW q l s=clsGoodW q l):openSeen q l m Xt true s=openGood q l:=by unfold openSeen openGood;rw[a.1,a.2.1,a.2.2,k2,c,d,e,f,b.1,h,i,j,b.2,n];simp[g]
def q_A(w:World)(a:OsState):HA vw ls (Jm w a):=⟨by kernel_rfl,by kernel_rfl,by kernel_rfl⟩
def Z_(w:World)(a:OsState):HB vw (Jm w a):=⟨by kernel_rfl,by kernel_rfl⟩
def q_5(w:World)(a:OsState):openSeen vw ls (importedModules pp.main.body) Xt true (Jm w a)=openGood vw ls:=ZV (q_A w a) (Z_ w a) (by kernel_rfl) (by kernel_rfl) (by kernel_rfl) (by kernel_rfl) (by kernel_rfl) (by kernel_rfl) (by kernel_rfl) (by kernel_rfl) (by kernel_rfl) (by kernel_rfl)
def gT{s:Shared}{b:List Addr}{X:List (Option Obj)}(d:(Js s).abs=s)(f:(b.all λa=>Nat.blt a (Js s).n&&((Js s).tree.get a).isSome)=true)(g:b.map (λa=>((Js s).tree.get a).bind alive)=X):b.map s.heap.get?=X:=by rw[<-g];refine List.map_congr_left λa m=>?_;have e:s.heap=absHeap (Js s).tree (Js s).n (Js s).life:=(aaB Shared.heap d).symm;have z:=abR.mp f a m;rw[aaK]at z;obtain⟨o,c⟩:=Option.isSome_iff_exists.mp z.2;rw[c,e];exact abs_get (Nat.le_of_ble_eq_true z.1) c
def Xl(w:World)(a:OsState):Wv.map (Jm w a).heap.get?=(KK w.params).map (λp=>some p.2):=gT (by kernel_rfl) (by kernel_rfl) (by kernel_rfl)
def ZX(w:World)(a:OsState):hk.obs (Jm w a)=hk.val w:=Prod.ext (Xl w a) (by kernel_rfl)
theorem pC{r:Option Shared}{s:Shared}{a b c d:Shared->Bool}{i j:Type}{f:Shared->i}{g:Shared->j}{y:i}{z:j}(h:r=some s)(l:a s=true)(m:b s=true)(n:c s=true)(o:d s=true)(p:f s=y)(q:g s=z):((r.bind λe=>match a e&&b e&&c e&&d e with
 |true=>some e
 |false=>none).map λs=>(f s,g s))=some (y,z):=by
 subst h p q;show(Option.map _ (match a s&&b s&&c s&&d s with|true=>some s|false=>none))=_;rw[l,m,n,o];rfl
theorem last(w:World)(f:OsState):((topRun treeTable pp w 11 an 501 (wJ w f) (restOf Vx env cd wG [topFrame fp])).bind λe=>match staticsOk (importedModules pp.main.body) (Jl w f).heap e.heap&&namesBound pp e.heap&&gensDone e&&laidKept (Jl w f).heap e.heap with
 |true=>some e
 |false=>none).map (λs=>(openSeen vw ls (importedModules pp.main.body) Xt true s,hk.obs s))=some (openGood vw ls,hk.val w):=pC (a:=λs=>staticsOk (importedModules pp.main.body) (Jl w f).heap s.heap) (b:=λs=>namesBound pp s.heap) (c:=λs=>gensDone s) (d:=λs=>laidKept (Jl w f).heap s.heap) (ZK w f) (ZC w f) (q_2 w f) (q_3 w f) (ZF w f) (q_5 w f) (ZX w f)
def chain(w:World)(a:OsState)(r:Shared)(h:topRun treeTable pp w 11 an 501 (wJ w a) (restOf Vx env cd wG [topFrame fp])=some r):topRun treeTable pp w 11 an 12742 (Jl w a) (topStub pp)=some r:=by have k:topRun treeTable pp w 11 an 12729 (Z1 w a) (restOf (Y4++(Q0++(Q5++(Qt++(Qw++(FQ++(Ij++(Gz++Vx)))))))) env cd Yi [topFrame fp])=some r:=piece_app (r_9 w a) (piece_app (WR w a) (piece_app (Z0 w a) (piece_app (YQ w a) (piece_app (Xn w a) (piece_app (Vg w a) (piece_app (Vt w a) (piece_app (VG w a) (h))))))));rw[<-Vn]at k;exact go_top (n:=12) (N:=12730) (ZW w a) (piece_block (n:=1) (N:=12729) (r_b w a) k)
def run(w:World)(a:OsState):(topFrom treeTable pp w 12742 (Jl w a)).map (λs=>(openSeen vw ls (importedModules pp.main.body) Xt true s,hk.obs s))=some (openGood vw ls,hk.val w):=Gp (s0:=Jl w a) (by kernel_rfl) (by kernel_rfl) (by kernel_rfl) (chain w a) (last w a)
def left:LeftO (OpenRow.toRowW PySem.Challenge.rw_lanescribe_k42_whole_tests_let_events_by.row).prog vw ls Xt hk.obs hk.val 12742:=Dh openP (by decide) (λs=>by kernel_rfl) run
def head(h:(OpenRow.toRowW PySem.Challenge.rw_lanescribe_k42_whole_tests_let_events_by.row).promised){d:DefRec}{b:List (Str×Expr)}(c:defOf vw PySem.Challenge.rw_lanescribe_k42_whole_tests_let_events_by.row.name=some (d,b))(i:PySem.Challenge.rw_lanescribe_k42_whole_tests_let_events_by.row.prog.theDef PySem.Challenge.rw_lanescribe_k42_whole_tests_let_events_by.row.name=some (d.params,d.body,d.scope))(g:kwWritten? d.params.kwonlyargs d.params.kw_defaults=some b)
 (j:WalkO vw ls (XL vw lv) (kmHook KK Wv eK [871]).says (OpenRow.toRowW PySem.Challenge.rw_lanescribe_k42_whole_tests_let_events_by.row) d b λf vs=>PySem.call f vs):PySem.Challenge.rw_lanescribe_k42_whole_tests_let_events_by.Holds:=
 holds_law said λa=>holds_open (q:=vw) (loose:=ls) (Xt:=Xt) (XP:=XL vw lv) (Yf:=hk.obs) (Ya:=hk.val) (YP:=hk.says) (N:=12742) left hk.of hk.keeps (λs e=>xl_of s (Bool.and_eq_true_iff.mp e).1) XL.keeps c i g (λs e=>recFacts_of (Bool.and_eq_true_iff.mp e).2) (by rfl) a (by decide+kernel) ⟨rfl,rfl,rfl,rfl,rfl,by decide+kernel⟩ h j
end
end Kd
local macro_rules|`(tactic|ext)=>`(tactic|first|exact⟨rfl,rfl,rfl,by decide+kernel,rfl,by decide+kernel,by decide+kernel⟩|exact⟨rfl,by decide+kernel,by decide+kernel,by decide+kernel,rfl,by decide+kernel⟩|exact Nat.le_of_ble_eq_true rfl|(intro v _ _ _ h;first|(cases h;exact aaB List.length (show v=_ by assumption))|(repeat first|exact aaB List.length h.1|obtain⟨_,h⟩:=h))|decide+kernel)
set_option bootstrap.genMatcherCode false
noncomputable section
local macro_rules|`(tactic|omega)=>`(tactic|first|assumption|exact Nat.le_trans (by assumption) (by decide)|exact Nat.le_of_lt (by assumption)|lia)
namespace L2
open PySem PySem.Spec PyProof.Rows
abbrev Key:=Sum Int Str
noncomputable def sr:Key->Value->Bool
 |.inl k,v=>Value.isInt k v
 |.inr x,v=>Value.isStrOf x v
noncomputable def XN(w:ZH):Key->Int
 |.inl k=>hashInt k
 |.inr x=>hashStr w x
theorem ik:∀{k:Key}{v:ZI},sr k v=true->(∃i t,k=Sum.inl i/\v=Value.int i t)\/(∃x t,k=Sum.inr x/\v=Value.str x t)
 | .inl i,v,h=>by obtain⟨t,e⟩:=Value.isInt_shape (k:=i) (v:=v) h;exact .inl ⟨i,t,rfl,e⟩
 | .inr x,v,h=>by obtain⟨t,e⟩:=Value.isStrOf_shape (x:=x) (v:=v) h;exact .inr ⟨x,t,rfl,e⟩
def Du(i:Int)(t:Tok):sr (.inl i) (.int i t)=true:=by simp[sr,Value.isInt]
def CN(x:Str)(t:Tok):sr (.inr x) (.str x t)=true:=by simp[sr,Value.isStrOf]
def Ot(a b:Int):decide ((Sum.inl a:Key)=Sum.inl b)=(a==b):=by
 by_cases e:a=b
 ·subst e;simp
 ·have h:¬(Sum.inl a:Key)=Sum.inl b:=λq=>e (Sum.inl.inj q);rw [aaR h];exact (abr.mpr e).symm
def Qs(a b:Str):decide ((Sum.inr a:Key)=Sum.inr b)=decide (a=b):=by
 by_cases e:a=b
 ·subst e;simp
 ·have h:¬(Sum.inr a:Key)=Sum.inr b:=λq=>e (abt q);rw [aaR h,aaR e]
def QT(a:Int)(b:Str):decide ((Sum.inl a:Key)=Sum.inr b)=false:=aaR (λq=>nomatch q)
def O_(a:Str)(b:Int):decide ((Sum.inr a:Key)=Sum.inl b)=false:=aaR (λq=>nomatch q)
noncomputable def iC(c:ZE)(w:ZH):PySem.KeyKind c w Key where
 is:=sr
 hash:=XN w
 inj:=λv a b g f=>by
  rcases ik g with⟨i,t,rfl,rfl⟩|⟨x,t,rfl,rfl⟩
  ·rcases ik f with⟨j,u,rfl,e⟩|⟨y,u,rfl,e⟩
   ·injection e with e1 _;rw[e1]
   ·exact nomatch e
  ·rcases ik f with⟨j,u,rfl,e⟩|⟨y,u,rfl,e⟩
   ·exact nomatch e
   ·injection e with e1 _;rw[e1]
 byValue:=λk v h=>by rcases ik h with⟨i,t,rfl,rfl⟩|⟨x,t,rfl,rfl⟩<;>rfl
 pyHash:=λd h=>by
  rcases ik d with⟨i,t,rfl,rfl⟩|⟨x,t,rfl,rfl⟩
  ·exact wpAny_pyHash_int h
  ·exact wpAny_pyHash_str h
 eqBool:=λl d h=>by
  rcases ik l with⟨i,t,rfl,rfl⟩|⟨x,t,rfl,rfl⟩
  ·rcases ik d with⟨j,u,rfl,rfl⟩|⟨y,u,rfl,rfl⟩
   ·rw[Ot]at h;exact wpAny_eqBool_int h
   ·rw[QT]at h;exact SeqAt.EqAt.int_str i t y u _ _ _ _ h
  ·rcases ik d with⟨j,u,rfl,rfl⟩|⟨y,u,rfl,rfl⟩
   ·rw[O_]at h;exact SeqAt.EqAt.str_int x t j u _ _ _ _ h
   ·rw[Qs]at h;exact wpAny_eqBool_str h
 «strs»:=λk x t v h=>by
  rcases ik h with⟨i,u,rfl,e⟩|⟨y,u,rfl,e⟩
  ·exact nomatch e
  ·injection e with e1 _
   subst e1;cases v<;>rfl
def yL(a:ZE)(w:ZH)(i:Int)(t:Tok):(iC a w).is (.inl i) (.int i t)=true:=Du i t
def xM(a:ZE)(w:ZH)(x:Str)(t:Tok):(iC a w).is (.inr x) (.str x t)=true:=CN x t
inductive V where
 |non|bl(b:Bool)|int(i:Int)|str(x:Str)|byt(b:Array UInt8)|flt(b:UInt64)|ref(a:Zl)|ty(n:String)
 deriving DecidableEq
noncomputable def RelV:V->Value->Prop
 |.non,u=>u=Value.none
 |.bl b,u=>u=Value.bool b
 |.int i,u=>∃t,u=Value.int i t
 |.str x,u=>∃t,u=Value.str x t
 |.byt b,u=>∃t,u=Value.bytes b t
 |.flt b,u=>∃t,u=Value.float b t
 |.ref a,u=>u=Value.ref a
 |.ty n,u=>u=Value.type n
abbrev Vals:List V->List Value->Prop:=Paired RelV
def Vals.length(r:Vals xs a):xs.length=a.length:=aaV r
theorem Vals.get:∀{a:List V}{b:Y3}{i:Nat}{x:V},Vals a b->a[i]?=some x->∃u,b[i]?=some u/\RelV x u
 |_,_,_,_,.nil,e=>by simp at e
 |_,_,0,_,.cons r _,e=>by simp at e;subst e;exact⟨_,rfl,r⟩
 | _,_,i+1,x,.cons _ t,e=>by obtain⟨u,c,d⟩:=Vals.get (i:=i) (x:=x) t (by simpa using e);exact⟨u,by simpa using c,d⟩
theorem Vals.set(r:RelV x u):∀{a:List V}{b:Y3}(i:Nat),Vals a b->Vals (a.set i x) (b.set i u)
 |_,_,_,.nil=>.nil
 |_,_,0,.cons _ t=>.cons r t
 |_,_,i+1,.cons q t=>.cons q (Vals.set r i t)
theorem Vals.append:∀{a ys:List V}{b c:Y3},Vals a b->Vals ys c->Vals (a++ys) (b++c)
 |_,_,_,_,.nil,s=>s
 |_,_,_,_,.cons r t,s=>.cons r (Vals.append t s)
theorem Vals.take:∀{a:List V}{b:Y3}(n:Nat),Vals a b->Vals (a.take n) (b.take n)
 |_,_,0,_=>.nil
 |_,_,_+1,.nil=>.nil
 |_,_,n+1,.cons r t=>.cons r (Vals.take n t)
theorem Vals.drop:∀{a:List V}{b:Y3}(n:Nat),Vals a b->Vals (a.drop n) (b.drop n)
 |_,_,0,r=>r
 |_,_,_+1,.nil=>.nil
 |_,_,n+1,.cons _ t=>Vals.drop n t
noncomputable def o7:Option V->Option Value->Prop
 |some v,some u=>RelV v u
 |none,none=>True
 |_,_=>False
noncomputable def KV{a:Type}:List (a×V)->List (a×Value)->Prop:=Paired λ(p:a×V)(q:a×Value)=>p.1=q.1/\RelV p.2 q.2
noncomputable def kV:Key->V
 |.inl i=>.int i
 |.inr x=>.str x
inductive HO where
 |lst(xs:List V)
 |tup(xs:List V)
 |dK(kvs:List (Key×V))|dT(kvs:List (List Key×V))
 |set(S:Int->Bool)(n:Nat)
 |ins(C dx:Zl)(fs:List (Str×V))
 |own(x:Zl)
 |xd(fs:List (Str×V))
 |met(f x:Zl)
 |rng(lo hi:Int)
 |frz(o:Obj)(u:HO)
 |tbl(ps:YA)
 |ext(φ:Heap->Prop)
abbrev Hp:=Addr->Option HO
noncomputable def upd(H:Hp)(a:Zl)(o:HO):Hp:=λb=>if b=a then some o else H b
def a_:upd H a o a=some o:=by unfold upd;rw[aac rfl]
def c7(h:b≠a):upd H a o b=H b:=by unfold upd;rw[aab h]
def iV:upd (upd H a o) a u=upd H a u:=by funext b;unfold upd;split<;>rfl
def j9{H:Hp}(h:H a=some o)(c:H b=some u)(d:o≠u):a≠b:=by intro e;subst e;rw[h]at c;exact d (aaW c)
def dg{H:Hp}(h:H a=some o)(c:H b=none):a≠b:=by intro e;subst e;rw[h]at c;cases c
section
variable(P:ZE)(w:ZH)
noncomputable def iw(H:Hp)(h:ZN)(a:Zl):HO->Prop
 |.lst d=>d.length<=sizeLine/\∃(b:Y3) (n:Nat),Vals d b/\h.get? a=some {cls:=.type "list",data:=.seq b.toArray n}
 |.tup d=>d.length<=sizeLine/\∃b:List Value,Vals d b/\IsTup h a b.toArray
 |.dK c=>c.length<=sizeLine/\(a==sysModules)=false/\∃vs,KV c vs/\h.DictOf (iC P w) a vs
 |.dT c=>c.length<=sizeLine/\(a==sysModules)=false/\∃d:List (List Key×Addr×Value),
  Paired (λ(p:List Key×V)(q:List Key×Addr×Value)=>p.1=q.1/\H q.2.1=some (.tup (p.1.map kV))/\RelV p.2 q.2.2) c d/\
  ∃o i m,h.get? a=some o/\o.ExactDict/\o.data=.dict i m/\i.toList=d.map (entryOfKey (tupleKind (iC P w)))/\(d.map (·.1)).Nodup
 |.set S n=>h.SetOf (intKind P w) a S n
 |.ins C g fs=>H g=some (.own a)/\fs.length<=1000/\g≠a/\h.get? a=some (PySem.W.instObj C g)/\
  ∃e,h.Ns1 g e/\(∀f,o7 (fs.lookup f) (e f))/\PySem.Within e (fs.map (·.1))
 |.own _=>∃o,h.get? a=some o
 |.xd fs=>∃e,h.Ns1 a e/\∀f,o7 (fs.lookup f) (e f)
 |.rng r s=>∃t u v,h.get? a=some {cls:=.type "range",data:=.fields #[.int r t,.int s u,.int 1 v]}
 |.frz o u=>h.get? a=some o/\iw H h a u
 |.tbl y=>h.get? a=some {cls:=.none,data:=.fields y}
 |.met f x=>h.get? a=some (PySem.W.methodObj (.ref f) (.ref x))
 |.ext φ=>φ h/\(∃o,h.get? a=some o)/\∀j l:Heap,φ j->(∀o,j.get? a=some o->l.get? a=some o)->φ l
def oG(H:Hp)(h:ZN):Prop:=∀a o,H a=some o->iw P w H h a o
end
theorem iw.lt(x:iw P w H h a o):a<h.objs.size:=by
 cases o with
 |lst xs=>obtain⟨_,_,_,_,e⟩:=x;exact aaq e
 |tup xs=>obtain⟨_,_,_,p⟩:=x;exact p.lt
 |dK kvs=>obtain⟨_,_,_,_,o,_,_,e,_⟩:=x;exact aaq e
 |dT kvs=>obtain⟨_,_,_,_,o,_,_,e,_⟩:=x;exact aaq e
 |set S n=>obtain⟨o,_,_,_,e,_⟩:=x;exact aaq e
 |ins C dx fs=>obtain⟨_,_,_,e,_⟩:=x;exact aaq e
 |own y=>obtain⟨_,e⟩:=x;exact aaq e
 |xd fs=>obtain⟨_,⟨_,_,_,e,_⟩,_⟩:=x;exact aaq e
 |rng lo hi=>obtain⟨_,_,_,e⟩:=x;exact aaq e
 |frz ob u=>obtain⟨e,_⟩:=x;exact aaq e
 |tbl ps=>exact aaq (show h.get? a=some _ from x)
 |met f y=>exact aaq (show h.get? a=some _ from x)
 |ext φ=>obtain⟨_,⟨_,e⟩,_⟩:=x;exact aaq e
theorem Paired.mapP{e g:Type}{F G:e->g->Prop}:∀{c:List e}{d:List g},Paired F c d->(∀a b,F a b->G a b)->Paired G c d
 |_,_,.nil,_=>.nil
 |_,_,.cons r t,f=>.cons (f _ _ r) (Paired.mapP t f)
theorem iw.stay{H H':Hp}{h h':ZN}(x:iw P w H h a o)(k:∀b u,(b=a\/H b=some (.own a))->h.get? b=some u->h'.get? b=some u)
 (ho:∀b,H b=some (.own a)->H' b=some (.own a))(ht:∀b xs,H b=some (.tup xs)->H' b=some (.tup xs)):iw P w H' h' a o:=by
 induction o with
 |lst xs=>obtain⟨z,its,n,r,e⟩:=x;exact⟨z,its,n,r,k _ _ (.inl rfl) e⟩
 |tup xs=>obtain⟨z,its,r,ob,e,c⟩:=x;exact⟨z,its,r,ob,k _ _ (.inl rfl) e,c⟩
 |dK kvs=>obtain⟨z,y,vs,r,ob,es,ep,e,c⟩:=x;exact⟨z,y,vs,r,ob,es,ep,k _ _ (.inl rfl) e,c⟩
 | dT kvs=>obtain⟨z,y,xs,r,ob,es,ep,e,c⟩:=x;exact⟨z,y,xs,Paired.mapP r λp q z=>⟨z.1,ht _ _ z.2.1,z.2.2⟩,ob,es,ep,k _ _ (.inl rfl) e,c⟩
 |set S n=>obtain⟨ob,es,ep,t,e,c⟩:=x;exact⟨ob,es,ep,t,k _ _ (.inl rfl) e,c⟩
 | ins C dx fs=>obtain⟨d,z,ne,e,mA,⟨od,es,ep,e2,c⟩,r⟩:=x;exact⟨ho _ d,z,ne,k _ _ (.inl rfl) e,mA,⟨od,es,ep,k _ _ (.inr d) e2,c⟩,r⟩
 |own y=>obtain⟨ob,e⟩:=x;exact⟨ob,k _ _ (.inl rfl) e⟩
 |xd fs=>obtain⟨mA,⟨od,es,ep,e,c⟩,r⟩:=x;exact⟨mA,⟨od,es,ep,k _ _ (.inl rfl) e,c⟩,r⟩
 |rng lo hi=>obtain⟨t,u,v,e⟩:=x;exact⟨t,u,v,k _ _ (.inl rfl) e⟩
 |frz ob u ih=>obtain⟨e,q⟩:=x;exact⟨k _ _ (.inl rfl) e,ih q⟩
 | tbl ps=>have e:h.get? a=some {cls:=.none,data:=.fields ps}:=x;show h'.get? a=some {cls:=.none,data:=.fields ps};exact k a _ (.inl rfl) e
 | met f y=>have e:h.get? a=some (PySem.W.methodObj (.ref f) (.ref y)):=x;show h'.get? a=some (PySem.W.methodObj (.ref f) (.ref y));exact k a _ (.inl rfl) e
 |ext φ=>obtain⟨p,⟨o,e⟩,st⟩:=x;exact⟨st _ _ p λo q=>k _ _ (.inl rfl) q,⟨o,k _ _ (.inl rfl) e⟩,st⟩
def oG.lt(x:oG P w H h)(e:H a=some o):a<h.objs.size:=(x a o e).lt
theorem oG.fresh(x:oG P w H h)(e:h.objs.size<=a):H a=none:=by
 cases q:H a with
 |none=>rfl
 |some u=>exact absurd (aaF (x.lt q) e) (abu _)
def oG.kept(x:oG P w H h)(k:∀b u,h.get? b=some u->h'.get? b=some u):oG P w H h':=λa o e=>(x a o e).stay (λb u _ q=>k b u q) (λ_ q=>q) λ_ _ q=>q
def oG.laid{h h':ZN}(x:oG P w H h)(k:∀b u,h.get? b=some u->h'.get? b=some u)(g:h.objs.size<=a)(new:iw P w (upd H a o) h' a o):oG P w (upd H a o) h':=λb u e=>by
 have d:=x.fresh g;by_cases f:b=a
 ·subst f;rw[a_]at e;cases e;exact new
 ·rw[c7 f]at e;exact(x b u e).stay (λc v _ q=>k c v q) (λc q=>by rw[c7 (dg q d)];exact q) λc i q=>by rw[c7 (dg q d)];exact q
def Rd(H:Hp)(a:Zl)(u:HO):Prop:=H a=some u\/∃o,H a=some (.frz o u)
def Rd.ok(r:Rd H a u)(x:oG P w H h):iw P w H h a u:=by
 rcases r with r|⟨o,r⟩
 ·exact x a u r
 ·obtain⟨_,q⟩:=x a _ r;exact q
noncomputable def Su:Option HO->Prop
 |some (.lst _)=>True
 |some (.dK _)=>True
 |some (.dT _)=>True
 |some (.set _ _)=>True
 |some (.ins _ _ _)=>True
 |some (.ext _)=>True
 |_=>False
def oG.write(ok:oG P w H h)(l:Su (H x))(o:e=x\/H e=some (.own x))(k:∀b u,b≠e->h.get? b=some u->h'.get? b=some u)(m:∃u,h'.get? e=some u)
 (new:iw P w (upd H x s) h' x s):oG P w (upd H x s) h':=λb u q=>by
 have d:∀c y,H c=some (.own y)->c≠x:=λc y r z=>by subst z;rw[r]at l;exact l
 have f:∀c g,H c=some (.tup g)->c≠x:=λc g r z=>by subst z;rw[r]at l;exact l
 by_cases j:b=x
 ·subst j;rw[a_]at q;cases q;exact new
 ·rw[c7 j]at q;by_cases a:b=e
  ·have n:H b=some (.own x):=by
    rcases o with z|z
    ·exact absurd (a.trans z) j
    ·rw[a];exact z
   rw[q]at n;cases n;obtain⟨v,p⟩:=m;exact⟨v,by rw[a];exact p⟩
  ·refine(ok b u q).stay (λc v i r=>k c v ?_ r) (λc r=>by rw[c7 (d c b r)];exact r) λc g r=>by rw[c7 (f c g r)];exact r
   rcases i with rfl|i
   ·exact a
   ·rintro rfl;rcases o with z|z
    ·exact d c b i z
    ·rw[i]at z;cases z;exact j rfl
structure Un(fs ex:YI)(H H':Hp)(h h':ZN):Prop where
 keep:∀b o,h.get? b=some o->H b=none->b∉fs->b∉ex->h'.get? b=some o
 slot:∀b o,h.get? b=some o->H b=none->b∈fs->b∉ex->∃sl,h'.get? b=some {o with slots:=sl}
 free:∀b o,h.get? b=some o->H b=none->b∉ex->H' b=none
 there:∀b o,h.get? b=some o->b∉ex->∃o',h'.get? b=some o'
 tups:∀b xs,H b=some (.tup xs)->H' b=some (.tup xs)
 frzs:∀b o u,H b=some (.frz o u)->H' b=some (.frz o u)
 tbls:∀b ps,H b=some (.tbl ps)->∃more,H' b=some (.tbl (ps++more))
def Un.any(u:Un fs e H i h a)(q:h.get? b=some c)(n:H b=none)(f:b∉e):∃g,a.get? b=some {c with slots:=g}:=by
 by_cases d:b∈fs
 ·exact u.slot b c q n d f
 ·exact⟨c.slots,u.keep b c q n d f⟩
def Un.kept(k:∀b u,h.get? b=some u->h'.get? b=some u):Un fs a H H h h':=
 ⟨λb c q _ _ _=>k b c q,λb c q _ _ _=>⟨c.slots,k b c q⟩,λ_ _ _ n _=>n,λb c q _=>⟨c,k b c q⟩,λ_ _ q=>q,λ_ _ _ q=>q,λ_ d q=>⟨#[],by rw[q];simp⟩⟩
def Un.refl:Un fs a H H h h:=Un.kept λ_ _ q=>q
def Un.laid{H:Hp}{h h':ZN}(k:∀b u,h.get? b=some u->h'.get? b=some u)(f:h.objs.size<=a)(c:H a=none):Un fs e H (upd H a o) h h' where
 keep:=λb u q _ _ _=>k b u q
 slot:=λb u q _ _ _=>⟨u.slots,k b u q⟩
 free:=λb u q n _=>by rw[c7 (aay (aaF (aaq q) f))];exact n
 there:=λb u q _=>⟨u,k b u q⟩
 tups:=λb d q=>by rw[c7 (dg q c)];exact q
 frzs:=λb u d q=>by rw[c7 (dg q c)];exact q
 tbls:=λb g q=>⟨#[],by rw[c7 (dg q c),q];simp⟩
def Un.write(d:Su (H x))(m:e=x\/H e=some (.own x))(k:∀b u,b≠e->h.get? b=some u->h'.get? b=some u)(g:∃u,h'.get? e=some u):Un fs a H (upd H x o) h h':=by
 have i:∀b,H b=none->b≠x:=λb n z=>by subst z;rw[n]at d;exact d
 have j:∀b,H b=none->b≠e:=λb n z=>by
  subst z;rcases m with r|r
  ·exact i b n r
  ·rw[n]at r;cases r
 have f:∀b u,H b=some u->¬Su (some u)->b≠x:=λb u q nm z=>by subst z;rw[q]at d;exact nm d
 refine⟨λb u q n _ _=>k b u (j b n) q,λb u q n _ _=>⟨u.slots,k b u (j b n) q⟩,λb u q n _=>by rw[c7 (i b n)];exact n,λb u q _=>?_,
  λb l q=>by rw[c7 (f b _ q λz=>z)];exact q,λb u l q=>by rw[c7 (f b _ q λz=>z)];exact q,λb p q=>⟨#[],by rw[c7 (f b _ q λz=>z),q];simp⟩⟩;by_cases c:b=e
 ·subst c;exact g
 ·exact⟨u,k b u c q⟩
noncomputable def Wi(h:ZN)(H:Hp):List Addr:=(List.range h.objs.size).filter λa=>(H a).isSome
noncomputable def yQ(h:ZN)(H:Hp):Heap:=PySem.W.hideAll h (Wi h H)
def CJ(h:ZN)(H:Hp):(yQ h H).objs.size=h.objs.size:=PySem.W.hideAll_size _ _
def tQ(e:h.get? b=some o)(n:H b=none):(yQ h H).get? b=some o:=
 PySem.W.hideAll_get _ e λa=>by have q:(H b).isSome=true:=(List.mem_filter.mp a).2;rw[n]at q;simp at q
theorem JH(e:(yQ h H).get? b=some o):h.get? b=some o/\H b=none:=by
 have a:h.get? b=some o:=PySem.W.of_hideAll (Wi h H) e;refine⟨a,?_⟩;cases q:H b with
 |none=>rfl
 | some x=>have c:b∈Wi h H:=List.mem_filter.mpr ⟨acb.mpr (aaq a),by simp[q]⟩;have z:(yQ h H).get? b=none:=PySem.W.hideAll_none (Wi h H) c;rw[z]at e;cases e
structure Mod(K:Zs)(mg:Y1)(base:ZN):Prop where
 kin:K.In base
 glob:base.Ns mainGlobals mg
 blt:∃mb,base.Ns builtinsNs mb/\∀x:Str,x≠"__name__"->mb x=bootBuiltins x
 nolimit:base.NoLimit
structure Cx where
 prog:Program
 w:World
 K:PySem.W.Frag
 mg:Str->Option Value
 base:Heap
 A:Around
 N:List Str
 s₀:Shared
 H₀:Hp
 env:Env
 outer:List Env
 stack:List Env
 ex:List Addr
 fn:Str->Bool
 calm:Bool
 pn:List (Addr×Obj)
 xe:Value->Shared->Prop
noncomputable def frs(l:List Env):List Addr:=l.filterMap (·.frame)
abbrev Cx.fs(X:Cx):List Addr:=frs X.outer
def Rv(a:ZU)(x:Str):Prop:=a.names.lookup x=some .local\/a.names.lookup x=some .cell\/a.names.lookup x=some .free
def Loc(a:ZU)(x:Str):Prop:=a.names.lookup x=some .local\/a.names.lookup x=some .cell
noncomputable def Look(env:Env)(h:ZN)(m:Y1)(x:Str)(u:ZI):Prop:=
 (env.kindOf x=some .local/\m x=some u)\/((env.kindOf x=some .cell\/env.kindOf x=some .free)/\∃c,env.cells.lookup x=some c/\h.IsCell c (some u))
structure Cx.Ok(X:Cx):Prop where
 mod:Mod X.K X.mg X.base
 kind:X.env.scope.kind=.function
 glob:X.env.globals=mainGlobals
 blt:X.env.builtins=builtinsNs
 above:X.s₀.heap.objs.size<=X.env.locals
 inj:∀x y c,X.env.cells.lookup x=some c->X.env.cells.lookup y=some c->x=y
 has:∀x,(X.env.kindOf x=some .cell\/X.env.kindOf x=some .free)->∃c,X.env.cells.lookup x=some c
 cab:∀x c,X.fn x=true->X.env.cells.lookup x=some c->X.s₀.heap.objs.size<=c
 hd:X.calm=true->X.A.handled=none
 frames:X.A.frames=some X.stack
 stk:X.stack=X.outer\/(X.stack=X.env::X.outer/\X.env.frame=some X.env.locals)
 exf:∀b∈X.ex,b≠X.env.locals/\∀x c,X.env.cells.lookup x=some c->c≠b
 bs:∀b o,X.base.get? b=some o->X.s₀.heap.get? b=some o/\X.H₀ b=none
 bsz:X.base.objs.size<=X.s₀.heap.objs.size
 noex:∀b o,X.base.get? b=some o->b∉X.ex
 exfs:∀b∈X.ex,b∉X.fs
 funs:X.s₀.heap.FunFrames X.base X.outer
 frf:∀b∈X.fs,X.H₀ b=none
structure Inv(X:Cx)(eH:YN)(σ:List (Option V))(H:Hp)(s:Zp):Prop where
 ok:X.Ok
 os:s.os=X.s₀.os
 bare:AllBare s.gens
 base:Un X.fs X.ex X.H₀ H X.s₀.heap s.heap
 loc:∃m,s.heap.Ns X.env.locals m/\∀(i:Nat)(x:Str)(v:V),X.N[i]?=some x->σ[i]?=some (some v)->Rv X.env.scope x->∃u,RelV v u/\Look X.env s.heap m x u
 cell:∀x c,X.env.cells.lookup x=some c->∃v,s.heap.IsCell c v
 free:H X.env.locals=none
 freeC:∀x c,X.env.cells.lookup x=some c->H c=none
 pin:∀p∈X.pn++eH,s.heap.get? p.1=some p.2/\H p.1=none/\p.1≠X.env.locals/\p.1∉X.fs/\∀v,p.2.data≠.cell v
 hok:oG X.prog X.w H s.heap
 len:σ.length=X.N.length
section
variable{X:Cx}{eH:YN}{σ:List (Option V)}{H H':Hp}{s:Zp}{h':ZN}
def Cx.Ok.nofr(ok:X.Ok)(e:X.base.get? b=some o):b∉X.fs:=λa=>by have:=(ok.funs.mem a).1;rw[e]at this;cases this
def Inv.bs(I:Inv X eH σ H s):∀b o,X.base.get? b=some o->s.heap.get? b=some o/\H b=none:=λb o e=>⟨I.base.keep b o (I.ok.bs b o e).1 (I.ok.bs b o e).2 (I.ok.nofr e) (I.ok.noex b o e),I.base.free b o (I.ok.bs b o e).1 (I.ok.bs b o e).2 (I.ok.noex b o e)⟩
def Inv.bk(I:Inv X eH σ H s):∀b o,X.base.get? b=some o->s.heap.get? b=some o:=λb o e=>(I.bs b o e).1
def Inv.mod(I:Inv X eH σ H s):Mod X.K X.mg X.base:=I.ok.mod
def Inv.kIn(I:Inv X eH σ H s):X.K.In s.heap:=I.ok.mod.kin.keeps I.bk
def Inv.fr(I:Inv X eH σ H s):∃m,Fr X.base X.env.locals s.heap m:=
 let⟨m,a,_⟩:=I.loc
 ⟨m,a,I.bk,aag I.ok.bsz I.ok.above⟩
def Inv.lt(I:Inv X eH σ H s):X.env.locals<s.heap.objs.size:=let⟨_,a,_⟩:=I.loc;a.lt
def Inv.sz(I:Inv X eH σ H s):X.s₀.heap.objs.size<=s.heap.objs.size:=aag I.ok.above (aaX I.lt)
def Inv.nofs(I:Inv X eH σ H s)(h:s.heap.objs.size<=a):a∉X.fs:=λb=>by obtain⟨_,o,c,_⟩:=I.ok.funs.mem b;exact absurd (aaF (aaq c) (aag I.sz h)) (abu _)
def Inv.cne(I:Inv X eH σ H s):∀x c,X.env.cells.lookup x=some c->c≠X.env.locals:=λx c e z=>by obtain⟨v,o,d,hd⟩:=I.cell x c e;obtain⟨m,⟨f,g,h,a,b,_⟩,_⟩:=I.loc;rw[z,a]at d;cases d;rw[b]at hd;cases hd
def Inv.funs(I:Inv X eH σ H s):s.heap.FunFrames X.base X.outer:=by
 have all:∀(l:List Env),(∀b∈frs l,b∈X.fs)->X.s₀.heap.FunFrames X.base l->s.heap.FunFrames X.base l:=by
  intro l;induction l with
  |nil=>intro _ _;trivial
  | cons env r m=>intro f j;obtain⟨hk,⟨L,o,d,g,h,hd⟩,i⟩:=j;have c:L∈X.fs:=f L (by unfold frs;rw[acv,d];exact aal);obtain⟨n,e⟩:=I.base.slot L o h (I.ok.frf L c) c λz=>I.ok.exfs L z c;exact⟨hk,⟨L,_,d,g,e,hd⟩,m (λb a=>f b (by unfold frs;rw[acv,d];exact aah _ a)) i⟩
 exact all X.outer (λ_ a=>a) I.ok.funs
def Inv.stack(I:Inv X eH σ H s):s.heap.FunFrames X.base X.stack:=by
 rcases I.ok.stk with e|⟨e,b⟩
 ·rw[e];exact I.funs
 ·rw[e];obtain⟨m,a,_⟩:=I.loc;refine .cons (by rw[I.ok.kind];decide) b a ?_ I.funs;exact Heap.get?_none_of_le (aag I.ok.bsz I.ok.above)
def Inv.stkSub(I:Inv X eH σ H s):∀b∈frs X.stack,b∈X.env.locals::X.fs:=λb a=>by
 rcases I.ok.stk with e|⟨e,c⟩
 ·rw[e]at a;exact aah _ a
 ·rw[e]at a;unfold frs at a;rw[acv,c]at a;exact a
def Inv.stkFree(I:Inv X eH σ H s):∀b∈frs X.stack,H b=none:=λb a=>by
 rcases aai.mp (I.stkSub b a)with e|a
 ·rw[e];exact I.free
 ·obtain⟨_,o,c,_⟩:=I.ok.funs.mem a;exact I.base.free b o c (I.ok.frf b a) λz=>I.ok.exfs b z a
def Inv.step{g':Array GenState}{t':Nat}{d':Drawn}{ch:YI}(I:Inv X eH σ H s)
 (h:∀b∈ch,(b∈X.ex\/X.s₀.heap.objs.size<=b)/\b≠X.env.locals/\(∀x c,X.env.cells.lookup x=some c->c≠b)/\∀p∈X.pn++eH,p.1≠b)
 (keep:∀b o,b≠X.env.locals->b∉X.fs->b∉ch->s.heap.get? b=some o->H b=none->h'.get? b=some o)
 (A:∀b o,b≠X.env.locals->b∈X.fs->b∉ch->s.heap.get? b=some o->H b=none->∃P,h'.get? b=some {o with slots:=P})(free:∀b o,b∉ch->s.heap.get? b=some o->H b=none->H' b=none)
 (C:∀b o,b∉ch->s.heap.get? b=some o->∃F,h'.get? b=some F)
 (L:∀b y,H b=some (.tup y)->H' b=some (.tup y))(M:∀b o u,H b=some (.frz o u)->H' b=some (.frz o u))(N:∀b O,H b=some (.tbl O)->∃G,H' b=some (.tbl (O++G)))
 (ns:∀m,s.heap.Ns X.env.locals m->h'.Ns X.env.locals m)(R:oG X.prog X.w H' h')(hg:AllBare g'):
 Inv X eH σ H' {s with heap:=h',gens:=g',drawn:=d',toks:=t'}:=by
 have J:∀b o,X.s₀.heap.get? b=some o->b≠X.env.locals:=λb o e=>aay (aaF (aaq e) I.ok.above);have w:∀b o,X.s₀.heap.get? b=some o->b∉X.ex->b∉ch:=λb o e a B=>by
  rcases(h b B).1 with z|z
  ·exact a z
  ·exact absurd (aaF (aaq e) z) (abu _)
 have f:∀x c,X.env.cells.lookup x=some c->∀v,s.heap.IsCell c v->h'.IsCell c v:=λx c e v⟨o,D,hd⟩=>by
  have g:c∉ch:=λz=>(h c z).2.2.1 x c e rfl;by_cases T:c∈X.fs
  ·obtain⟨P,q⟩:=A c o (I.cne x c e) T g D (I.freeC x c e);exact⟨_,q,hd⟩
  ·exact⟨o,keep c o (I.cne x c e) T g D (I.freeC x c e),hd⟩
 refine⟨I.ok,I.os,hg,⟨λb o e n B a=>?_,λb o e n B a=>?_,λb o e n a=>?_,λb o e a=>?_,λb y e=>L b y (I.base.tups b y e),λb o y e=>M b o y (I.base.frzs b o y e),λb O e=>?_⟩,?_,λx c e=>?_,?_,λx c e=>?_,λp S=>?_,R,I.len⟩
 ·exact keep b o (J b o e) B (w b o e a) (I.base.keep b o e n B a) (I.base.free b o e n a)
 ·obtain⟨P,j⟩:=I.base.slot b o e n B a;obtain⟨Q,E⟩:=A b _ (J b o e) B (w b o e a) j (I.base.free b o e n a);exact⟨Q,E⟩
 ·obtain⟨F,j⟩:=I.base.there b o e a;exact free b F (w b o e a) j (I.base.free b o e n a)
 ·obtain⟨F,j⟩:=I.base.there b o e a;exact C b F (w b o e a) j
 ·obtain⟨W,j⟩:=I.base.tbls b O e;obtain⟨Y,E⟩:=N b _ j;exact⟨W++Y,by rw[E,Array.append_assoc]⟩
 ·obtain⟨m,Z,hl⟩:=I.loc;refine⟨m,ns m Z,λi x v j E U=>?_⟩;obtain⟨u,r,l⟩:=hl i x v j E U;refine⟨u,r,?_⟩;rcases l with l|⟨k,c,e,z⟩
  ·exact .inl l
  ·exact .inr ⟨k,c,e,f x c e _ z⟩
 ·obtain⟨v,z⟩:=I.cell x c e;exact⟨v,f x c e v z⟩
 ·obtain⟨m,⟨o,_,_,D,_⟩,_⟩:=I.loc;exact free _ o (λz=>(h _ z).2.1 rfl) D I.free
 ·obtain⟨v,o,D,hd⟩:=I.cell x c e;exact free c o (λz=>(h c z).2.2.1 x c e rfl) D (I.freeC x c e)
 ·obtain⟨e,n,ne,nf,d⟩:=I.pin p S;have g:p.1∉ch:=λz=>(h p.1 z).2.2.2 p S rfl;exact⟨keep p.1 p.2 ne nf g e n,free p.1 p.2 g e n,ne,nf,d⟩
def Inv.un{t':Nat}(I:Inv X eH σ H s)(u:Un X.fs [] H H' s.heap h')(g:oG X.prog X.w H' h'):Inv X eH σ H' {s with heap:=h',toks:=t'}:=by obtain⟨m,⟨o,q,v,h,r⟩,_⟩:=id I.loc;obtain⟨w,j⟩:=u.any h I.free (by simp);exact I.step (g':=s.gens) (d':=s.drawn) (ch:=[]) (λ_ z=>nomatch z) (λb o _ c _ e n=>u.keep b o e n c (by simp)) (λb o _ c _ e n=>u.slot b o e n c (by simp)) (λb o _ e n=>u.free b o e n (by simp)) (λb o _ e=>u.there b o e (by simp)) u.tups u.frzs u.tbls (λp i=>by obtain⟨x,d,f,a,l⟩:=i;rw[h]at a;cases a;exact⟨_,d,f,j,l⟩) g I.bare
def Inv.call{g':Array GenState}{t':Nat}{d':Drawn}{ch:YI}(I:Inv X eH σ H s)(u:Un (frs X.stack) ch H H' s.heap h')(j:oG X.prog X.w H' h')(y:AllBare g')
 (f:∀b∈ch,(b∈X.ex\/X.s₀.heap.objs.size<=b)/\b≠X.env.locals/\(∀x c,X.env.cells.lookup x=some c->c≠b)/\∀p∈X.pn++eH,p.1≠b):
 Inv X eH σ H' {s with heap:=h',gens:=g',drawn:=d',toks:=t'}:=by
 obtain⟨m,⟨o,B,C,l,r⟩,_⟩:=id I.loc;obtain⟨D,g⟩:=u.any l I.free λz=>(f _ z).2.1 rfl;exact I.step (ch:=ch) f (λb o g q a e n=>u.keep b o e n (λz=>(aai.mp (I.stkSub b z)).elim g q) a) (λb o _ _ a e n=>u.any e n a) (λb o a e n=>u.free b o e n a) (λb o a e=>u.there b o e a) u.tups u.frzs u.tbls (λA v=>by obtain⟨E,h,i,d,w⟩:=v;rw[l]at d;cases d;exact⟨_,h,i,g,w⟩) j y
def Inv.turned{t':Nat}{it:Zl}(I:Inv X eH σ H s)(k:∀b o,b≠it->s.heap.get? b=some o->h'.get? b=some o)(w:H it=none)(f:it≠X.env.locals)
 (y:it∈X.ex\/X.s₀.heap.objs.size<=it)(A:∀x c,X.env.cells.lookup x=some c->c≠it)(B:∀p∈X.pn++eH,p.1≠it):Inv X eH σ H {s with heap:=h',toks:=t'}:=by
 have d:∀b u,H b=some u->b≠it:=λb u e z=>by rw[z,w]at e;cases e
 refine I.step (g':=s.gens) (d':=s.drawn) (ch:=[it]) (λb g=>?_) (λb o _ _ a e _=>k b o (λz=>a (by simp[z])) e) (λb o _ _ a e _=>⟨o.slots,k b o (λz=>a (by simp[z])) e⟩) (λ_ _ _ _ n=>n)
  (λb o a e=>⟨o,k b o (λz=>a (by simp[z])) e⟩) (λ_ _ e=>e) (λ_ _ _ e=>e) (λb C e=>⟨#[],by rw[e];simp⟩) (λm h=>?_) (λb u e=>?_) I.bare
 ·have e:b=it:=by simpa using g
  subst e;exact⟨y,f,A,B⟩
 ·obtain⟨o,i,j,l,r⟩:=h;exact⟨o,i,j,k _ o (aaI f) l,r⟩
 ·refine(I.hok b u e).stay (λc v a q=>k c v ?_ q) (λ_ q=>q) λ_ _ q=>q;rcases a with z|z
  ·rw[z];exact d b u e
  ·exact d c _ z
def Inv.tok(I:Inv X eH σ H s)(t:Nat):Inv X eH σ H {s with toks:=t}:=I.un (h':=s.heap) (t':=t) Un.refl I.hok
def Inv.kept(I:Inv X eH σ H s)(k:∀b u,s.heap.get? b=some u->h'.get? b=some u):Inv X eH σ H {s with heap:=h',toks:=t'}:=I.un (Un.kept k) (I.hok.kept k)
def Inv.laid(I:Inv X eH σ H s)(k:∀b u,s.heap.get? b=some u->h'.get? b=some u)(c:s.heap.objs.size<=a)(new:iw X.prog X.w (upd H a o) h' a o):
 Inv X eH σ (upd H a o) {s with heap:=h',toks:=t'}:=I.un (Un.laid k c (I.hok.fresh c)) (I.hok.laid k c new)
def Inv.write(I:Inv X eH σ H s)(c:Su (H x))(d:e=x\/H e=some (.own x))(k:∀b u,b≠e->s.heap.get? b=some u->h'.get? b=some u)(a:∃u,h'.get? e=some u)
 (new:iw X.prog X.w (upd H x o) h' x o):Inv X eH σ (upd H x o) {s with heap:=h',toks:=t'}:=I.un (Un.write c d k a) (I.hok.write c d k a new)
def Inv.pins_of(I:Inv X eH σ H s)(h:∀p∈pins',s.heap.get? p.1=some p.2/\H p.1=none/\p.1≠X.env.locals/\p.1∉X.fs/\∀v,p.2.data≠.cell v):Inv X pins' σ H s:=
 ⟨I.ok,I.os,I.bare,I.base,I.loc,I.cell,I.free,I.freeC,λp a=>(aak.mp a).elim (λz=>I.pin p (aaY _ z)) (h p),I.hok,I.len⟩
def tL{N:Y2}(e:N.Nodup){i j:Nat}{x:Str}(a:N[i]?=some x)(b:N[j]?=some x):i=j:=by obtain⟨f,c⟩:=aar.mp a;obtain⟨g,d⟩:=aar.mp b;exact(List.getElem_inj e).mp (c.trans d.symm)
def uH{M:Model}{A:ZO}{E:ZY}{i:Nat}{x:Str}{v:V}{u:ZI}{Q:Unit->Shared->Prop}(I:Inv X eH σ H s)(hN:X.N.Nodup)(U:X.N[i]?=some x)(B:Loc X.env.scope x)(r:RelV v u)
 (h:∀s',Inv X eH (σ.set i (some v)) H s'->(∃a,Heap.SameBut a s.heap s'.heap/\(a=X.env.locals\/X.env.cells.lookup x=some a))->Q () s')(hf:X.fn x=true\/X.env.scope.names.lookup x=some .local:=by first|exact .inl rfl|exact .inr rfl|assumption):wpAny M A (storeName X.env x u) Q E s:=by
 obtain⟨m,hn,hl⟩:=id I.loc;have P:(X.env.scope.kind==.class||(X.env.scope.kind==.module&&X.env.locals !=X.env.globals))=false:=by rw[I.ok.kind];rfl
 have F:i<σ.length:=by rw[I.len];exact(aar.mp U).1
 have cne:=I.cne;have l:∀{a:Zl}{N:ZN},(∃o,s.heap.get? a=some o/\H a=none)->Heap.SameBut a s.heap N->oG X.prog X.w H N:=λ{a N}ha f b ob e=>by
  obtain⟨_,_,C⟩:=ha;refine(I.hok b ob e).stay (λc W w q=>(f.2 c ?_).trans q) (λ_ q=>q) λ_ _ q=>q;rintro rfl;rcases w with rfl|w
  ·rw[C]at e;cases e
  ·rw[C]at w;cases w
 rcases B with hk|hk
 ·refine wpAny_storeName_local hk hn (λN Z f=>?_) P;obtain⟨oL,_,_,aa,_⟩:=id hn;refine h _ ⟨I.ok,I.os,I.bare,⟨λb o e n G B=>?_,λb o e n G B=>?_,I.base.free,λb o e B=>?_,I.base.tups,I.base.frzs,I.base.tbls⟩,⟨_,Z,λj y v' g D e3=>?_⟩,λy c e=>?_,I.free,I.freeC,λp hp=>?_,l ⟨oL,aa,I.free⟩ f,by simpa using I.len⟩ ⟨_,f,.inl rfl⟩
  ·exact(f.2 b (aay (aaF (aaq e) I.ok.above))).trans (I.base.keep b o e n G B)
  ·obtain⟨sl,g⟩:=I.base.slot b o e n G B;exact⟨sl,(f.2 b (aay (aaF (aaq e) I.ok.above))).trans g⟩
  ·obtain⟨o',g⟩:=I.base.there b o e B;exact⟨o',(f.2 b (aay (aaF (aaq e) I.ok.above))).trans g⟩
  ·by_cases L:j=i
   ·subst L;rw[U]at g;cases g;rw[acw F]at D;cases D;exact⟨u,r,.inl ⟨hk,by simp⟩⟩
   ·rw[List.getElem?_set_ne (aaI L)]at D;obtain⟨u',r',q⟩:=hl j y v' g D e3;refine⟨u',r',?_⟩;rcases q with⟨k,e⟩|⟨k,c,e,z⟩
    ·refine .inl ⟨k,?_⟩;have:y≠x:=λe=>L (tL hN g (e▸U));simp[this,e]
    ·exact .inr ⟨k,c,e,z.sameBut f (cne y c e)⟩
  ·obtain⟨W,z⟩:=I.cell y c e;exact⟨W,z.sameBut f (cne y c e)⟩
  ·obtain⟨e,n,ne,nf,d⟩:=I.pin p hp;exact⟨(f.2 p.1 ne).trans e,n,ne,nf,d⟩
 ·have J:X.fn x=true:=by
   rcases hf with z|z
   ·exact z
   ·rw[z]at hk;cases hk
  obtain⟨c,w⟩:=I.ok.has x (.inl hk);obtain⟨W,z⟩:=I.cell x c w;refine wpAny_storeName_cell I.ok.kind hk w z (λN O f=>?_);obtain⟨oc,R,S⟩:=id z;refine h {s with heap:=N} ⟨I.ok,I.os,I.bare,⟨λb o e n G B=>?_,λb o e n G B=>?_,I.base.free,λb o e B=>?_,I.base.tups,I.base.frzs,I.base.tbls⟩,⟨m,hn.sameBut f (aaI (cne x c w)),λj y v' g D e3=>?_⟩,λy Y e=>?_,I.free,I.freeC,λp hp=>?_,l ⟨oc,R,I.freeC x c w⟩ f,by simpa using I.len⟩ ⟨c,f,.inr w⟩
  ·exact(f.2 b (aay (aaF (aaq e) (I.ok.cab x c J w)))).trans (I.base.keep b o e n G B)
  ·obtain⟨sl,g⟩:=I.base.slot b o e n G B;exact⟨sl,(f.2 b (aay (aaF (aaq e) (I.ok.cab x c J w)))).trans g⟩
  ·obtain⟨o',g⟩:=I.base.there b o e B;exact⟨o',(f.2 b (aay (aaF (aaq e) (I.ok.cab x c J w)))).trans g⟩
  ·by_cases L:j=i
   ·subst L;rw[U]at g;cases g;rw[acw F]at D;cases D;exact⟨u,r,.inr ⟨.inl hk,c,w,O⟩⟩
   ·rw[List.getElem?_set_ne (aaI L)]at D;obtain⟨u',r',q⟩:=hl j y v' g D e3;refine⟨u',r',?_⟩;rcases q with q|⟨k,Y,e,z'⟩
    ·exact .inl q
    ·refine .inr ⟨k,Y,e,z'.sameBut f ?_⟩;rintro rfl;exact L (tL hN g (I.ok.inj _ _ _ e w▸U))
  ·by_cases T:Y=c
   ·subst T;exact⟨_,O⟩
   ·obtain⟨w2,z2⟩:=I.cell y Y e;exact⟨w2,z2.sameBut f T⟩
  ·obtain⟨e,n,ne,nf,d⟩:=I.pin p hp;refine⟨(f.2 p.1 ?_).trans e,n,ne,nf,d⟩;intro q;rw[q,R]at e;have q':oc=p.2:=aaW e;exact d W (by rw[<-q'];exact S)
def nA(I:Inv X eH σ H s)(c:X.N.Nodup)(d:X.N[i]?=some x)(e:Loc X.env.scope x)(r:RelV v u)
 (h:∀a,Inv X eH (σ.set i (some v)) H a->Q () a)(f:X.fn x=true\/X.env.scope.names.lookup x=some .local:=by first|exact .inl rfl|exact .inr rfl|assumption):wpAny M A (storeName X.env x u) Q E s:=
 uH I c d e r (λa b _=>h a b) f
def Inv.call'(I:Inv X eH σ H s)(l:a.os=s.os)(u:Un (frs X.stack) ch H H' s.heap a.heap)(d:oG X.prog X.w H' a.heap)(m:AllBare a.gens)
 (f:∀b∈ch,(b∈X.ex\/X.s₀.heap.objs.size<=b)/\b≠X.env.locals/\(∀x c,X.env.cells.lookup x=some c->c≠b)/\∀p∈X.pn++eH,p.1≠b):Inv X eH σ H' a:=by
 obtain⟨n,g,h,i,j⟩:=a;have e:j=s.os:=l;subst e;exact I.call (g':=g) (t':=i) (d':=h) u d m f
end
abbrev XK:=Value->Option Addr->Hp->Prop
abbrev St:=List (Option V)
abbrev VK:=V->Hp->Prop
abbrev TE:=St->Hp->VK->Prop
abbrev TT:=St->Hp->(Bool->Hp->Prop)->Prop
abbrev TA:=St->Hp->(List V->Hp->Prop)->Prop
structure Ends where
 nx:St->Hp->Prop
 rt:VK
 bk:St->Hp->Prop:=λ_ _=>False
 ct:St->Hp->Prop:=λ_ _=>False
abbrev TS:=Ends->St->Hp->Prop
def EP(X:Cx)(a:YN)(c:St)(Q:VK)(u:ZI)(d:Zp):Prop:=∃v b,Inv X a c b d/\RelV v u/\Q v b
def TP(X:Cx)(a:YN)(d:St)(Q:Bool->Hp->Prop)(b:Bool)(e:Zp):Prop:=∃c,Inv X a d c e/\Q b c
def AP(X:Cx)(a:YN)(c:St)(Q:List V->Hp->Prop)(d:Y3)(e:Zp):Prop:=∃vs b,Inv X a c b e/\Vals vs d/\Q vs b
noncomputable def SP(X:Cx)(b:YN)(D:Ends)(f:Flow)(d:Zp):Prop:=
 match f with
 |.next=>∃a c,Inv X b a c d/\D.nx a c
 |.brk=>∃a c,Inv X b a c d/\D.bk a c
 |.cont=>∃a c,Inv X b a c d/\D.ct a c
 |.ret u=>∃v a c,Inv X b a c d/\RelV v u/\D.rt v c
noncomputable def PE(X:Cx)(e:ZT)(t:TE):Prop:=
 ∀(a:YN)(s:Zp)(b:St)(H:Hp)(Q:VK),Inv X a b H s->t b H Q->wpAny (model X.prog X.w) X.A (eval e X.env) (EP X a b Q) X.xe s
noncomputable def PT(X:Cx)(e:ZT)(t:TT):Prop:=
 ∀(a:YN)(s:Zp)(b:St)(H:Hp)(Q:Bool->Hp->Prop),Inv X a b H s->t b H Q->wpAny (model X.prog X.w) X.A (isTrue e X.env (eval e X.env)) (TP X a b Q) X.xe s
noncomputable def PW(X:Cx)(e:ZT)(t:TT):Prop:=
 ∀(b:Sem Value)(a:YN)(s:Zp)(c:St)(H:Hp)(Q:Bool->Hp->Prop),Inv X a c H s->t c H Q->wpAny (model X.prog X.w) X.A (isTrue e X.env b) (TP X a c Q) X.xe s
def PW.pt(h:PW X e t):PT X e t:=h _
noncomputable def PA(X:Cx)(d:YU)(t:TA):Prop:=
 ∀(b:Pos)(a:YN)(s:Zp)(c:St)(H:Hp)(Q:List V->Hp->Prop),Inv X a c H s->t c H Q->wpAny (model X.prog X.w) X.A (spliced (backTo b (starEach d X.env))) (AP X a c Q) X.xe s
noncomputable def PS(X:Cx)(c:Stmt)(t:TS):Prop:=
 ∀(a:YN)(s:Zp)(b:St)(H:Hp)(D:Ends),Inv X a b H s->t D b H->wpAny (model X.prog X.w) X.A (exec c X.env) (SP X a D) X.xe s
noncomputable def Dq(X:Cx)(c:List Stmt)(t:TS):Prop:=
 ∀(a:YN)(s:Zp)(b:St)(H:Hp)(D:Ends),Inv X a b H s->t D b H->wpAny (model X.prog X.w) X.A (execs c X.env) (SP X a D) X.xe s
def gH{b:Type}{t:Sem b}{Q c:b->Shared->Prop}{M:Model}{A:ZO}{E:ZY}{s:Zp}(h:wpAny M A t Q E s)(d:∀a s,Q a s->c a s):wpAny M A t c E s:=aaG h d λ_ _ x=>x
section
variable{X:Cx}
def bin{a b:ZT}{m n:TE}(w:PE X a m)(z:PE X b n){c:YN}{s:Zp}{e:St}{H:Hp}{R:V->V->Hp->Prop}(I:Inv X c e H s)(h:m e H λx l=>n e l λy d=>R x y d)
 {o:Type}{Q:o->Shared->Prop}{f:Value->Value->Sem o}
 (A:∀v u j x y d,Inv X c e d j->RelV x v->RelV y u->R x y d->wpAny (model X.prog X.w) X.A (f v u) Q X.xe j):
 wpAny (model X.prog X.w) X.A (eval a X.env) (λv g=>wpAny (model X.prog X.w) X.A (eval b X.env) (λu i=>wpAny (model X.prog X.w) X.A (f v u) Q X.xe i) X.xe g) X.xe s:=by
 refine gH (w c s e H _ I h) λv p⟨x,l,q,r1,q1⟩=>?_;refine gH (z c p e l _ q q1) λu j⟨y,d,r,r2,q2⟩=>?_;exact A v u j x y d r r1 r2 q2
def oY(i:Nat):TE:=λa H Q=>∃v,a[i]?=some (some v)/\Q v H
def tC(v:V):TE:=λ_ H Q=>Q v H
def Qf(w:X.N[i]?=some x)(y:Rv X.env.scope x)(hd:(x==("__debug__":Str))=false:=by decide)(g:(x==("__classdict__":Str))=false:=by decide):PE X (.Name x f) (oY i):=by
 intro d s p H Q I h;obtain⟨v,e,h⟩:=h;obtain⟨m,n,o⟩:=I.loc;obtain⟨u,r,l⟩:=o i x v w e y;have b:EP X d p Q u s:=⟨v,H,I,r,h⟩;rcases l with⟨hk,q⟩|⟨hk,c,j,a⟩
 ·exact abD (acx I.ok.kind hk n q b) hd
 ·rcases hk with hk|hk
  ·exact abD (acy I.ok.kind hk j a b) hd
  ·exact abD (wpAny_loadName_free I.ok.kind hk j a b g) hd
def dh{i j pos}:PE X (.Constant (.int i) j pos) (tC (.int i)):=λ_ _ _ H _ I h=>wpAny_Constant_int ⟨.int i,H,I.tok _,⟨_,rfl⟩,h⟩
def lD{b j pos}:PE X (.Constant (.bool b) j pos) (tC (.bl b)):=λ_ _ _ H _ I h=>Constant_bool ⟨.bl b,H,I,rfl,h⟩
def l_{j pos}:PE X (.Constant .none j pos) (tC .non):=λ_ _ _ H _ I h=>Constant_none ⟨.non,H,I,rfl,h⟩
def dC{x j pos}:PE X (.Constant (.str x) j pos) (tC (.str x)):=λ_ _ _ H _ I h=>Calls.Constant_str ⟨.str x,H,I.tok _,⟨_,rfl⟩,h⟩
def Gl(X:Cx)(x:Str):Prop:=X.env.kindOf x=some .globalImplicit
def pq(I:Inv X a c H s)(d:Gl X x)(e:X.mg x=some u)(h:Q u s)
 (hd:(x==("__debug__":Str))=false:=by decide):wpAny (model X.prog X.w) X.A (eval (.Name x b) X.env) Q E s:=
 Calls.Name_function_global I.ok.kind d (Calls.loadGlobal_global (by rw[I.ok.glob];exact I.mod.glob.keeps I.bk) e h) hd
def oR(I:Inv X a e H s)(f:Gl X x)(g:X.mg x=none)(i:bootBuiltins x=some u)(h:Q u s)
 (j:x≠"__name__":=by decide)(hd:(x==("__debug__":Str))=false:=by decide):wpAny (model X.prog X.w) X.A (eval (.Name x b) X.env) Q E s:=by
 obtain⟨l,c,d⟩:=I.mod.blt;exact Calls.Name_function_global I.ok.kind f (Calls.loadGlobal_builtin (by rw[I.ok.glob];exact I.mod.glob.keeps I.bk) g (by rw[I.ok.blt];exact c.keeps I.bk) ((d x j).trans i) h) hd
def iB(b:Gl X x)(c:X.mg x=some u)(r:RelV v u)(hd:(x==("__debug__":Str))=false:=by decide):PE X (.Name x a) (tC v):=
 λ_ _ _ H _ I h=>pq I b c ⟨v,H,I,r,h⟩ hd
def Ju(b:Gl X x)(c:X.mg x=none)(d:bootBuiltins x=some u)(r:RelV v u)(e:x≠"__name__":=by decide)(hd:(x==("__debug__":Str))=false:=by decide):PE X (.Name x a) (tC v):=
 λ_ _ _ H _ I h=>oR I b c d ⟨v,H,I,r,h⟩ e hd
noncomputable def PC(X:Cx)(op:CmpOp)(a b:ZT)(t:TE):Prop:=
 ∀(c:YN)(s:Zp)(f:St)(H:Hp)(Q:VK),Inv X c f H s->t f H Q->
   wpAny (model X.prog X.w) X.A (eval a X.env) (λv d=>wpAny (model X.prog X.w) X.A (eval b X.env) (λu e=>wpAny (model X.prog X.w) X.A (compareOp op v u) (EP X c f Q) X.xe e) X.xe d) X.xe s
def tB(t:TE):TT:=λd H Q=>t d H λx e=>∃c,x=.bl c/\Q c e
def Bd{op:CmpOp}{t:TE}(h:PC X op a b t)(f:behindInMarks op b=false:=by first|exact nobehind _ (by decide) (by decide)|rfl):PT X (.Compare a [op] [b] r) (tB t):=by intro e s l H Q I m;refine wpAny_isTrue_Compare1 (gH (h e s l H _ I m) λv n f=>gH f λu o g=>gH g λc p⟨x,i,j,r1,q1⟩=>?_) f;obtain⟨d,rfl,q⟩:=q1;cases r1;exact aa0 ⟨i,j,q⟩
def iT{e:ZT}{t:TE}(h:PE X e t)(m:∀c,isTrue e X.env c=(do let v<-c;standAt e.pos;holding [v] (truthy v)):=by intro _;rfl):PT X e (tB t):=by intro f s j H Q I l;refine isTrue_plain (gH (h f s j H _ I l) λv n⟨x,g,i,r1,q1⟩=>?_) (m _);obtain⟨d,rfl,q⟩:=q1;cases r1;exact aa0 ⟨g,i,q⟩
def V_(t u:TT):TT:=λd H Q=>t d H λc e=>if c=true then u d e Q else Q false e
def tOr(t u:TT):TT:=λd H Q=>t d H λc e=>if c=true then Q true e else u d e Q
def UW(t:TT):TT:=λd H Q=>t d H λc e=>Q (!c) e
theorem mQ(g:PT X a l):PW X (.BoolOp .And [a] b) l:=by
 intro j d s f H Q I h;refine isTrue_and (gH (g d s f H Q I h) λc i e=>?_);cases c with
 |true=>exact isTrue_and_nil e
 |false=>exact e
theorem tR(g:PT X a l):PW X (.BoolOp .Or [a] b) l:=by
 intro j d s f H Q I h;refine isTrue_or (gH (g d s f H Q I h) λc i e=>?_);cases c with
 |false=>exact isTrue_or_nil e
 |true=>exact e
theorem oK{a b:ZT}{n:Pos}{p o:TT}{rest:YU}(l:PT X a p)(m:PW X (.BoolOp .And (b::rest) n) o):PW X (.BoolOp .And (a::b::rest) n) (V_ p o):=by
 intro j d s g H Q I h;refine isTrue_and (gH (l d s g H _ I h) λc i⟨e,f,q1⟩=>?_);cases c with
 |true=>exact m j d i g e Q f q1
 |false=>exact⟨e,f,q1⟩
theorem uA{a b:ZT}{n:Pos}{p o:TT}{rest:YU}(l:PT X a p)(m:PW X (.BoolOp .Or (b::rest) n) o):PW X (.BoolOp .Or (a::b::rest) n) (tOr p o):=by
 intro j d s g H Q I h;refine isTrue_or (gH (l d s g H _ I h) λc i⟨e,f,q1⟩=>?_);cases c with
 |true=>exact⟨e,f,q1⟩
 |false=>exact m j d i g e Q f q1
def jm(g:PT X a i):PT X (.UnaryOp .Not a b) (UW i):=by intro d s f H Q I h;exact isTrue_not (g d s f H (λc e=>Q (!c) e) I h)
def T4(f g:TE):TE:=λd H Q=>f d H λx e=>∃c,x=.bl c/\if c=true then g d e Q else Q (.bl false) e
def WK(f g:TE):TE:=λd H Q=>f d H λx e=>∃c,x=.bl c/\if c=true then Q (.bl true) e else g d e Q
def Va(f:TE):TE:=λd H Q=>f d H λx e=>∃c,x=.bl c/\Q (.bl (!c)) e
def kJ{op}(h:PE X a t):PE X (.BoolOp op [a] b) t:=λc s d H Q I e=>BoolOp_one (h c s d H Q I e)
theorem jf{a b:ZT}{n o:TE}{m:Pos}{rest:YU}(j:PE X a n)(l:PE X (.BoolOp .And (b::rest) m) o):PE X (.BoolOp .And (a::b::rest) m) (T4 n o):=by
 intro d s g H Q I h;refine BoolOp_and (gH (j d s g H _ I h) λv i⟨x,e,f,r1,q1⟩=>?_);obtain⟨c,rfl,q1⟩:=q1;cases r1;refine aa0 ?_;cases c with
 |true=>exact l d i g e Q f q1
 |false=>exact⟨.bl false,e,f,rfl,q1⟩
theorem Vd{a b:ZT}{n o:TE}{m:Pos}{rest:YU}(j:PE X a n)(l:PE X (.BoolOp .Or (b::rest) m) o):PE X (.BoolOp .Or (a::b::rest) m) (WK n o):=by
 intro d s g H Q I h;refine BoolOp_or (gH (j d s g H _ I h) λv i⟨x,e,f,r1,q1⟩=>?_);obtain⟨c,rfl,q1⟩:=q1;cases r1;refine aa0 ?_;cases c with
 |false=>exact l d i g e Q f q1
 |true=>exact⟨.bl true,e,f,rfl,q1⟩
def Af(i:PE X a l):PE X (.UnaryOp .Not a b) (Va l):=by intro d s g H Q I h;refine UnaryOp_ (gH (i d s g H _ I h) λv j⟨x,e,f,r1,q1⟩=>?_);obtain⟨c,rfl,q1⟩:=q1;cases r1;exact not_of (aa0 ⟨.bl (!c),e,f,rfl,q1⟩)
def tIf(t:TT)(f g:TE):TE:=λd H Q=>t d H λc e=>if c=true then f d e Q else g d e Q
theorem kO{c:ZT}(l:PT X c p)(m:PE X a r)(n:PE X b q):PE X (.IfExp c a b o) (tIf p r q):=by
 intro e s f H Q I h;refine wpAny_IfExp (gH (l e s f H _ I h) λd g⟨i,j,q1⟩=>?_);cases d with
 |true=>exact m e g f i Q j q1
 |false=>exact n e g f i Q j q1
end
noncomputable def fj(K:Zs)(H:Hp)(a:Zl)(c:List V):Prop:=
 Rd H a (.lst c)\/
  ∃(o:Obj)(b:YA)(n:Nat),K.lookup a=some o/\o.cls=.type "list"/\o.dict=none/\o.data=.seq b n/\b.size<=sizeLine/\Vals c b.toList
noncomputable def gf(K:Zs)(H:Hp)(a:Zl)(c:List V):Prop:=
 Rd H a (.tup c)\/
  ∃(o:Obj)(b:YA)(n:Nat),K.lookup a=some o/\o.cls=.type "tuple"/\o.data=.seq b n/\b.size<=sizeLine/\Vals c b.toList
noncomputable def Ys:Value->Option V
 |.none=>some .non
 |.bool b=>some (.bl b)
 |.int i _=>some (.int i)
 |.str x _=>some (.str x)
 |.bytes b _=>some (.byt b)
 |.float b _=>some (.flt b)
 |.ref a=>some (.ref a)
 |.type n=>some (.ty n)
 |_=>none
theorem RelV.abs(r:RelV x u):Ys u=some x:=by
 cases x with
 |non=>cases r;rfl
 |bl _=>cases r;rfl
 |int _=>obtain⟨t,rfl⟩:=r;rfl
 |str _=>obtain⟨t,rfl⟩:=r;rfl
 |byt _=>obtain⟨t,rfl⟩:=r;rfl
 |flt _=>obtain⟨t,rfl⟩:=r;rfl
 |ref _=>cases r;rfl
 |ty _=>cases r;rfl
def RelV.inj(r:RelV x u)(q:RelV y u):x=y:=aaW (r.abs.symm.trans q.abs)
theorem Vals.inj:∀{xs ys:List V}{a:Y3},Vals xs a->Vals ys a->xs=ys
 |_,_,_,.nil,.nil=>rfl
 |_,_,_,.cons r t,.cons r' t'=>by rw[r.inj r',Vals.inj t t']
def fj.of{H:Hp}{K:Zs}(h:H a=some (.lst b)):fj K H a b:=.inl (.inl h)
def gf.of{H:Hp}{K:Zs}(h:H a=some (.tup b)):gf K H a b:=.inl (.inl h)
def Inv.list(I:Inv X g j H s)(h:fj X.K H a i):∃b:List Value,Vals i b/\PlainL s.heap a b.toArray/\i.length<=sizeLine:=by
 rcases h with h|⟨o,b,n,hk,c,hd,d,f,r⟩
 ·obtain⟨z,b,n,r,e⟩:=h.ok I.hok;exact⟨b,r,⟨_,n,e,rfl,rfl,rfl⟩,z⟩
 ·refine⟨b.toList,r,⟨o,n,I.kIn a o hk,c,hd,by simpa using d⟩,?_⟩;have e:=r.length;simp only[acz]at e;omega
def Inv.tuple(I:Inv X g j H s)(h:gf X.K H a i):∃b:List Value,Vals i b/\IsTup s.heap a b.toArray/\i.length<=sizeLine:=by
 rcases h with h|⟨o,b,n,hk,c,d,f,r⟩
 ·obtain⟨z,b,r,p⟩:=h.ok I.hok;exact⟨b,r,p,z⟩
 ·refine⟨b.toList,r,⟨o,I.kIn a o hk,c,n,by simpa using d⟩,?_⟩;have e:=r.length;simp only[acz]at e;omega
def Inv.list_inj(I:Inv X p v H s)(h:fj X.K H a q)(j:fj X.K H a ys):q=ys:=by
 obtain⟨c,r,⟨o,n,e,_,_,d⟩,_⟩:=I.list h;obtain⟨b,i,⟨l,m,f,_,_,g⟩,_⟩:=I.list j;rw[e]at f;cases f;rw[d]at g;injection g with d1 _
 have:c=b:=by simpa using aaB Array.toList d1
 subst this;exact r.inj i
def Inv.tuple_inj(I:Inv X p v H s)(h:gf X.K H a q)(j:gf X.K H a ys):q=ys:=by
 obtain⟨c,r,⟨o,e,_,n,d⟩,_⟩:=I.tuple h;obtain⟨b,i,⟨l,f,_,m,g⟩,_⟩:=I.tuple j;rw[e]at f;cases f;rw[d]at g;injection g with d1 _
 have:c=b:=by simpa using aaB Array.toList d1
 subst this;exact r.inj i
abbrev Cx.wish(X:Cx)(E:ZY):Cx:={X with xe:=E}
abbrev Cx.nox(X:Cx):Cx:=X.wish λ_ _=>False
def Cx.Ok.wish{X:Cx}(ok:X.Ok)(E:ZY):(X.wish E).Ok:=
 ⟨ok.mod,ok.kind,ok.glob,ok.blt,ok.above,ok.inj,ok.has,ok.cab,ok.hd,ok.frames,ok.stk,ok.exf,ok.bs,ok.bsz,ok.noex,ok.exfs,ok.funs,ok.frf⟩
def Cx.Ok.unwish{X:Cx}(ok:(X.wish E).Ok):X.Ok:=
 ⟨ok.mod,ok.kind,ok.glob,ok.blt,ok.above,ok.inj,ok.has,ok.cab,ok.hd,ok.frames,ok.stk,ok.exf,ok.bs,ok.bsz,ok.noex,ok.exfs,ok.funs,ok.frf⟩
def Inv.wish{X:Cx}(I:Inv X a b H s)(E:ZY):Inv (X.wish E) a b H s:=⟨I.ok.wish E,I.os,I.bare,I.base,I.loc,I.cell,I.free,I.freeC,I.pin,I.hok,I.len⟩
def Inv.unwish{X:Cx}(I:Inv (X.wish E) a b H s):Inv X a b H s:=⟨I.ok.unwish,I.os,I.bare,I.base,I.loc,I.cell,I.free,I.freeC,I.pin,I.hok,I.len⟩
theorem SP.unwish(h:SP (X.wish E) d D f c):SP X d D f c:=by
 cases f with
 |next=>obtain⟨a,b,I,q⟩:=h;exact⟨a,b,I.unwish,q⟩
 |brk=>obtain⟨a,b,I,q⟩:=h;exact⟨a,b,I.unwish,q⟩
 |cont=>obtain⟨a,b,I,q⟩:=h;exact⟨a,b,I.unwish,q⟩
 |ret u=>obtain⟨v,a,b,I,r,q⟩:=h;exact⟨v,a,b,I.unwish,r,q⟩
def Dq.nox{X:Cx}{b:List Stmt}{t:TS}(h:Dq X.nox b t):Dq X b t:=λa s c H D I d=>aaG (h a s c H D (I.wish _) d) (λ_ _ q=>q.unwish) λ_ _ z=>False.elim z
def vd:TS:=λD a H=>D.nx a H
def Lg(t u:TS):TS:=λD a H=>t {D with nx:=u D} a H
def dI:Dq X [] vd:=λ_ _ a H _ I h=>wpAny_execs_nil ⟨a,H,I,h⟩
theorem bK{X:Cx}{e:Stmt}{rest:List Stmt}{t u:TS}(j:PS X e t)(l:Dq X rest u):Dq X (e::rest) (Lg t u):=by
 intro a s i H D I h;refine wpAny_execs_cons (gH (j a s i H {D with nx:=u D} I h) λf c q=>?_);cases f with
 | next=>obtain⟨b,d,g,q⟩:=q;exact l a c b d D g q
 |ret v=>exact q
 |brk=>exact q
 |cont=>exact q
theorem d8{X:Cx}{e:Stmt}{t:TS}(c:PS X e t):Dq X [e] t:=by
 intro a s b H D I h;refine wpAny_execs_cons (gH (c a s b H D I h) λf d q=>?_);cases f with
 |next=>exact wpAny_execs_nil q
 |ret v=>exact q
 |brk=>exact q
 |cont=>exact q
def Inv.quiet(I:Inv X a b H s):interactive X.env=false:=by simp[interactive,I.ok.kind]
def Tz(c:TE):TS:=λD a H=>c a H λ_ b=>D.nx a b
def fc{X:Cx}{j:Pos}(f:PE X e l)(g:swapsWith e none j.line X.env=pure false:=by rfl):PS X (.Expr e j) (Tz l):=by intro a s b H D I h;exact wpAny_Expr_any (gH (f a s b H _ I h) λv i⟨x,c,d,r1,q1⟩=>⟨b,c,d,q1⟩) I.quiet g
def WQ(b:TE):TS:=λD a H=>b a H D.rt
def dw(f:PE X e j):PS X (.Return (some e) i) (WQ j):=by intro a s b H D I h;exact wpAny_Return_some (gH (f a s b H _ I h) λv g⟨x,c,d,r1,q1⟩=>⟨x,b,c,d,r1,q1⟩)
def KY(c:TT)(t u:TS):TS:=λD a H=>c a H λb d=>if b=true then t D a d else u D a d
theorem eX{c:ZT}{a b:List Stmt}{m:TT}(n:PT X c m)(o:Dq X a t)(p:Dq X b u):PS X (.If c a b e) (KY m t u):=by
 intro f s g H D I h;refine wpAny_If (gH (n f s g H _ I h) λd i⟨j,l,q1⟩=>?_);cases d with
 |true=>exact o f i g j D l q1
 |false=>exact p f i g j D l q1
def Ow:TS:=λ_ _ _=>False
def gj{X:Cx}{a:Stmt}:PS X a Ow:=λ_ _ _ _ _ _ h=>h.elim
abbrev TG:=V->St->Hp->(St->Hp->Prop)->Prop
abbrev Rw:=List V->St->Hp->(St->Hp->Prop)->Prop
noncomputable def PG(X:Cx)(a:ZT)(t:TG):Prop:=
 ∀(b:YN)(s:Zp)(d:St)(H:Hp)(v:V)(u:ZI)(Q:St->Hp->Prop),Inv X b d H s->RelV v u->t v d H Q->
   wpAny (model X.prog X.w) X.A (assign a X.env u) (λ_ f=>∃c e,Inv X b c e f/\Q c e) X.xe s
noncomputable def Wk(X:Cx)(ts:YU)(t:Rw):Prop:=
 ∀(a:YN)(s:Zp)(c:St)(H:Hp)(vs:List V)(d:Y3)(Q:St->Hp->Prop),Inv X a c H s->Vals vs d->t vs c H Q->
   wpAny (model X.prog X.w) X.A (assignInOrder ((assignEach ts X.env).map (·.2)) d) (λ_ f=>∃b e,Inv X a b e f/\Q b e) X.xe s
abbrev Wc:=V->V->Hp->VK->Prop
noncomputable def Zm(X:Cx)(op:Operator)(t:Wc):Prop:=
 ∀(a:YN)(s:Zp)(b:St)(H:Hp)(x y:V)(v u:ZI)(Q:VK),Inv X a b H s->RelV x v->RelV y u->t x y H Q->
   wpAny (model X.prog X.w) X.A (inplaceOp op v u) (EP X a b Q) X.xe s
def eN(i:Nat):TG:=λv a H Q=>Q (a.set i (some v)) H
def fZ(c:X.N.Nodup)(d:X.N[i]?=some x)(e:Loc X.env.scope x)(f:X.fn x=true\/X.env.scope.names.lookup x=some .local:=by first|exact .inl rfl|exact .inr rfl|assumption):PG X (.Name x l) (eN i):=by intro a s j H v u Q I r h;exact wpAny_assign_Name (nA I c d e r (λg b=>⟨_,H,b,h⟩) f)
noncomputable def J3:Rw:=λvs a H Q=>vs=[]/\Q a H
noncomputable def oE(t:TG)(u:Rw):Rw:=λvs b H Q=>∃v r,vs=v::r/\t v b H λa c=>u r a c Q
def gP:Wk X [] J3:=by intro a s b H vs c Q I r h;obtain⟨e,h⟩:=h;subst e;cases r;exact assignInOrder_nil ⟨b,H,I,h⟩
theorem dJ{X:Cx}{e:ZT}{b:YU}{t:TG}{u:Rw}(m:PG X e t)(n:Wk X b u)
 (o:(assignEach (e::b) X.env).map (·.2)=assign e X.env::(assignEach b X.env).map (·.2):=by rfl):Wk X (e::b) (oE t u):=by
 intro a s j H vs p Q I r h;obtain⟨v,vr,i,h⟩:=h;subst i;cases r with
 | cons r l=>rw[o];refine assignInOrder_cons (gH (m a s j H _ _ _ I r h) λ_ d⟨c,f,g,q1⟩=>?_);exact n a d c f _ _ Q g l q1
def Fp(K:Zs)(n:Nat)(t:Rw):TG:=λv c H Q=>∃a b,v=.ref a/\gf K H a b/\b.length=n/\t b c H Q
def iy(B:X.calm=true)(h:Wk X d t)
 (C:(assignEach d X.env).length=n:=by rfl)(g:(assignEach d X.env).findIdx? (·.1)=none:=by rfl):PG X (.Tuple d k E) (Fp X.K n t):=by
 intro c s j H v u Q I r f;obtain⟨a,q,w,x,y,f⟩:=f;subst w;cases r;obtain⟨z,i,A,D⟩:=I.tuple x;refine assign_Tuple_tuple (I.ok.hd B) A (by simp[C,<-y,i.length]) g λl m=>?_;have p:Inv X c j H {s with heap:=l}:=I.kept (t':=s.toks) λb o e=>m b o (aay (aaq e)) e;exact h c _ j H q _ Q p (by simpa using i) f
def Jj(c:TE)(g:TG):TS:=λD a H=>c a H λx b=>g x a b D.nx
def lY{X:Cx}{w:Pos}{b e:ZT}{d:TE}{g:TG}(l:PE X e d)(m:PG X b g)(n:swapsWithSole [b] e w.line X.env=pure false:=by rfl)(o:swappedStores [b] e X.env=pure none:=by rfl)
 (p:(assignEach [b] X.env).map (·.2)=[assign b X.env]:=by rfl):PS X (.Assign [b] e w) (Jj d g):=by
 intro a s c H D I h;refine wpAny_Assign_stores (gH (l a s c H _ I h) λv f⟨x,i,j,r1,q1⟩=>?_) n o;rw[p];exact gH (m a f c i x v _ j r1 q1) λ_ r q=>q
def QM{X:Cx}{z:Pos}{i:Nat}{x:Str}{e:ZT}{c:TE}{a:Pos}(l:X.N.Nodup)(m:X.N[i]?=some x)(n:Loc X.env.scope x)(o:PE X e c)(p:swapsWith e (some (.Name x a)) z.line X.env=pure false:=by rfl)(q:X.fn x=true\/X.env.scope.names.lookup x=some .local:=by first|exact .inl rfl|exact .inr rfl|assumption):
 PS X (.Assign [.Name x a] e z) (Jj c (eN i)):=by
 intro b s j H D I h;refine wpAny_Assign_Name (gH (o b s j H _ I h) λv r⟨y,d,f,r1,q1⟩=>?_) p;exact nA f l m n r1 (λw g=>⟨_,d,g,q1⟩) q
def YT(i j:Nat)(c:TA):TS:=λD a H=>c a H λvs b=>∃v w,vs=[v,w]/\D.nx ((a.set i (some v)).set j (some w)) b
def Px{X:Cx}{pos:Pos}{i j:Nat}{x y:Str}{a b:ZT}{G:TA}{r z pt:Pos}{kt k2 pt2}(Y:X.calm=true)(J:X.N.Nodup)(Z:X.N[i]?=some x)(hj:X.N[j]?=some y)(A:i≠j)
 (L:X.env.scope.names.lookup x=some .local)(M:X.env.scope.names.lookup y=some .local)(ha:PA X [a,b] G)
 (hw:swappedStores [.Tuple [.Name x r,.Name y z] kt pt] (.Tuple [a,b] k2 pt2) X.env=pure (some [x,y]))
 (hs:swapsWithSole [.Tuple [.Name x r,.Name y z] kt pt] (.Tuple [a,b] k2 pt2) pos.line X.env=pure false:=by rfl):
 PS X (.Assign [.Tuple [.Name x r,.Name y z] kt pt] (.Tuple [a,b] k2 pt2) pos) (YT i j G):=by
 intro d s F H D I h;rw[exec_Assign_arm];refine aaa (abl ?_);rw[hs];refine aaa (aae ?_);rw[aab (by decide)];refine aaa (Tuple_ (gH (ha _ d s F H _ I h) λN f⟨vs,B,O,r1,q1⟩=>?_));obtain⟨v,w,S,q1⟩:=q1;subst S;obtain⟨g,l,rfl,T,n⟩:∃g l,N=[g,l]/\RelV v g/\RelV w l:=by
  cases r1 with
  | cons p q=>
    cases q with
    | cons U W=>cases W;exact⟨_,_,rfl,p,U⟩
 refine aa2 ?_ (by ext);have Q:Inv X d F B {f with heap:=f.heap.push {cls:=.type "tuple",data:=.seq [g,l].toArray}}:=O.kept (t':=f.toks) λb o e=>aan _ e;rw[hw];refine aaa (aae ?_);show wpAny (model X.prog X.w) X.A (do rule "assign.swapped-stores";let c<-unpackItems (.ref f.heap.objs.size) 2 none;assignInOrder [λv=>bindName X.env y v,λv=>bindName X.env x v] c.reverse;pure Flow.next) _ _ _;refine aaa (abm (aaa (unpackItems_tuple (items:=#[g,l]) (I.ok.hd Y) (IsTup.new f.heap _) λC m=>?_)));have R:=Q.kept (h':=C) (t':=f.toks) λb o e=>m b o (aay (aaq e)) e;show wpAny _ _ (assignInOrder [λv=>bindName X.env y v,λv=>bindName X.env x v] [l,g]>>=λ_=>pure Flow.next) _ _ _;refine aaa (assignInOrder_cons (wpAny_bindName (nA R J hj (.inl M) n (λs2 P=>?_) (.inr M))));refine assignInOrder_cons (wpAny_bindName (nA P J Z (.inl L) T (λs3 E=>assignInOrder_nil (aae ?_)) (.inr L)));rw[List.set_comm _ _ (aaI A)]at E;exact⟨_,B,E,q1⟩
def XQ(i:Nat)(d:TE)(e:Wc):TS:=λD a H=>∃x,a[i]?=some (some x)/\d a H λy b=>e x y b λz c=>D.nx (a.set i (some z)) c
def Iz{X:Cx}{i:Nat}{x:Str}{e:ZT}{p:TE}{op:Operator}{q:Wc}{g:Pos}(Q:X.N.Nodup)(A:X.N[i]?=some x)(n:Loc X.env.scope x)(R:PE X e p)(S:Zm X op q)(T:X.fn x=true\/X.env.scope.names.lookup x=some .local:=by first|exact .inl rfl|exact .inr rfl|assumption):
 PS X (.AugAssign (.Name x g) op e Z) (XQ i p q):=by
 intro a s o H D I h;obtain⟨v,L,h⟩:=h;obtain⟨m,M,N⟩:=I.loc;have j:Rv X.env.scope x:=by rcases n with k|k;exact .inl k;exact .inr (.inl k)
 obtain⟨u,r,l⟩:=N i x v A L j;refine wpAny_AugAssign_Name ?_;have go:wpAny (model X.prog X.w) X.A (eval e X.env) (λw d=>wpAny (model X.prog X.w) X.A (inplaceOp op u w) (λr f=>wpAny (model X.prog X.w) X.A (storeName X.env x r) (λ_=>SP X a D .next) X.xe f) X.xe d) X.xe s:=by refine gH (R a s o H _ I h) λw B⟨y,C,E,r1,q1⟩=>?_;refine gH (S a B o C v y u w _ E r r1 q1) λz U⟨W,F,G,r2,q2⟩=>?_;exact nA G Q A n r2 (λY J=>⟨_,F,J,q2⟩) T
 rcases l with⟨hk,O⟩|⟨hk,c,P,b⟩
 ·exact acx I.ok.kind hk M O go
 ·rcases hk with hk|hk
  ·exact acy I.ok.kind hk P b go
  ·rcases n with k|k
   ·have:X.env.scope.names.lookup x=some .free:=hk;rw[k]at this;cases this
   ·have:X.env.scope.names.lookup x=some .free:=hk;rw[k]at this;cases this
noncomputable def ZM(f:Int->Int->Int):Wc:=λx y H Q=>∃i j,x=.int i/\y=.int j/\Q (.int (f i j)) H
def Gu:Zm X .Add (ZM λi j=>i+j):=by intro a s e H x y v u Q I r1 r2 h;obtain⟨i,j,b,c,q⟩:=h;subst b;subst c;obtain⟨t,rfl⟩:=r1;obtain⟨d,rfl⟩:=r2;exact iadd_int ⟨.int _,H,I.tok _,⟨_,rfl⟩,q⟩
structure It where
 go:Nat->Hp->Prop
 yld:Nat->Hp->V->Hp->Prop
 stop:Nat->Hp->Prop
noncomputable def km(X:Cx)(a:YN)(H:Hp)(b:Zl):Prop:=
 H b=none/\b≠X.env.locals/\b∉X.fs/\(b∈X.ex\/X.s₀.heap.objs.size<=b)/\(∀x c,X.env.cells.lookup x=some c->c≠b)/\∀p∈X.pn++a,p.1≠b
def Inv.fpOk(I:Inv X a g H s)(d:s.heap.objs.size<=b)(h:H' b=none):km X a H' b:=by
 refine⟨h,acd (aaF I.lt d),I.nofs d,.inr (aag I.sz d),λx c e z=>?_,λp f z=>?_⟩
 ·obtain⟨v,q⟩:=I.cell x c e;exact absurd (aaF q.lt (by rw[z];exact d)) (abu _)
 ·exact absurd (aaF (aaq (I.pin p f).1) (by rw[z];exact d)) (abu _)
structure Turn(P:ZE)(w:ZH)(K:Zs)(tg:ZT)(J:It)(fp:YI)(it:Zl)(tn:Nat->Heap->Prop):Prop where
 mem:it∈fp
 obj:∀i h,tn i h->∀b∈fp,∃o,h.get? b=some o/\∀v,o.data≠.cell v
 keep:∀i h h',tn i h->(∀b∈fp,∀o,h.get? b=some o->h'.get? b=some o)->tn i h'
 item:∀(X:Cx),X.prog=P->X.w=w->X.K=K->X.calm=true->∀(i:Nat)(eH:YN)(s:Zp)(σ:St)(H:Hp)(E:ZY),Inv X eH σ H s->(∀b∈fp,km X eH H b)->tn i s.heap->J.go i H->
  wpAny (model P w) X.A (pyNext (.ref it)) (λr s1=>∃u,r=some u/\wpAny (model P w) X.A (letOwnedTupleGo tg (.ref it) u) (λ_ s2=>∃x H',Inv X eH σ H' s2/\RelV x u/\J.yld i H x H'/\tn (i+1) s2.heap/\∀b∈fp,H' b=none) E s1) E s
 done:∀(X:Cx),X.prog=P->X.w=w->X.K=K->X.calm=true->∀(i:Nat)(eH:YN)(s:Zp)(σ:St)(H:Hp)(E:ZY),Inv X eH σ H s->(∀b∈fp,km X eH H b)->tn i s.heap->J.stop i H->
  wpAny (model P w) X.A (pyNext (.ref it)) (λr s1=>r=none/\Inv X eH σ H s1) E s
 self:∀(A:ZO)(i:Nat)(s:Zp)(Q:ZY)(E:ZY),tn i s.heap->Q (.ref it) s->wpAny (model P w) A (pyIter (.ref it)) Q E s
abbrev TI:=St->Hp->(It->Hp->Prop)->Prop
noncomputable def PIE(X:Cx)(a:YN)(h:St)(i:ZT)(R:It->Hp->Prop)(d:ZI)(g:Zp):Prop:=
 ∃(e:Zl)(fp:YI)(f:Nat->Heap->Prop)(J:It)(c:Hp),d=.ref e/\Inv X a h c g/\Turn X.prog X.w X.K i J fp e f/\f 0 g.heap/\(∀b∈fp,km X a c b)/\R J c
noncomputable def PI(X:Cx)(e b:ZT)(f:TI):Prop:=
 ∀(a:YN)(s:Zp)(c:St)(H:Hp)(R:It->Hp->Prop),Inv X a c H s->f c H R->
   wpAny (model X.prog X.w) X.A (eval b X.env) (λv d=>wpAny (model X.prog X.w) X.A (pyIter v) (PIE X a c e R) X.xe d) X.xe s
def N6(d:s.heap.get? c=some o)(e:o.cls=.type n)(hd:o.data=.fields vs)
 (f:["enumerate","zip","dict_itemiterator","dict_reverseitemiterator","odict_iterator","itertools.zip_longest","itertools.pairwise"].contains n=false)(a:Q () s):wpAny M A (letOwnedTupleGo b (.ref c) u) Q E s:=by
 unfold letOwnedTupleGo;cases b<;>first
  |exact aae a
  |(cases u<;>first
   |exact aae a
   | (refine aaa (wpAny_load d ?_)
      rw[e,hd];show wpAny M A (if(["enumerate","zip","dict_itemiterator","dict_reverseitemiterator","odict_iterator","itertools.zip_longest","itertools.pairwise"].contains n&&vs[0]?==some (rawInt _))=true then _ else _) Q E s;rw[aab (by intro h;rw[f,abS]at h;cases h)];exact aae a))
noncomputable def Ua(S:Hp->List V->Prop):It:=
 ⟨λi H=>∃a x,S H a/\a[i]?=some x,λi H x b=>b=H/\∀a,S H a->a[i]?=some x,λi H=>∃a,S H a/\a.length<=i⟩
abbrev Yd(K:Zs)(a:Zl):It:=Ua λH=>fj K H a
abbrev Y0(K:Zs)(a:Zl):It:=Ua λH=>gf K H a
def Rx(b:Int)(n:Nat):It:=⟨λi _=>i<n,λi H x a=>a=H/\x=.int (b+i),λi _=>n<=i⟩
def rC{P:ZE}{w:ZH}{K:Zs}{tg:ZT}{J:It}{g:Zl}(n:String){j:Nat->Heap->Prop}(Z:∀i h,j i h->∃o vs,h.get? g=some o/\o.cls=.type n/\o.data=.fields vs)
 (hn:["enumerate","zip","dict_itemiterator","dict_reverseitemiterator","odict_iterator","itertools.zip_longest","itertools.pairwise"].contains n=false)(keep:∀i h f,j i h->(∀o,h.get? g=some o->f.get? g=some o)->j i f)
 (U:∀{X:Cx}{i:Nat}{a:YN}{m:St}{s:Zp}{H:Hp}{R:Option Value->Shared->Prop}{E:ZY},X.prog=P->X.w=w->X.K=K->X.A.handled=none->Inv X a m H s->j i s.heap->J.go i H->(∀u x f tk,RelV x u->J.yld i H x H->j (i+1) f->(∀b o,b≠g->s.heap.get? b=some o->f.get? b=some o)->R (some u) {s with heap:=f,toks:=tk})->wpAny (model P w) X.A (pyNext (.ref g)) R E s)
 (W:∀{X:Cx}{i:Nat}{a:YN}{m:St}{s:Zp}{H:Hp}{R:Option Value->Shared->Prop}{E:ZY},X.prog=P->X.w=w->X.K=K->X.A.handled=none->Inv X a m H s->j i s.heap->J.stop i H->(∀f tk,(∀b o,b≠g->s.heap.get? b=some o->f.get? b=some o)->R none {s with heap:=f,toks:=tk})->wpAny (model P w) X.A (pyNext (.ref g)) R E s)
 (Y:∀(A:ZO)(i:Nat)(s:Zp)(Q E:ZY),j i s.heap->Q (.ref g) s->wpAny (model P w) A (pyIter (.ref g)) Q E s):Turn P w K tg J [g] g j where
 mem:=aam.mpr rfl
 obj:=λi h l b B=>by obtain⟨o,vs,e,_,d⟩:=Z i h l;cases aam.mp B;exact⟨o,e,λv z=>by rw[d]at z;cases z⟩
 keep:=λi h f l k=>keep i h f l (k g (aam.mpr rfl))
 item:=λX C D F G i a s m H E I q l L=>by obtain⟨M,N,f2,O,S,T⟩:=q g (aam.mpr rfl);refine U C D F (I.ok.hd G) I l L λu x f tk r y p k=>?_;obtain⟨o,vs,e,c,d⟩:=Z _ _ p;exact⟨u,rfl,N6 (s:={s with heap:=f,toks:=tk}) e c d hn ⟨x,H,I.turned k M N O S T,r,y,p,λb B=>(q b B).1⟩⟩
 done:=λX C D F G i a s m H E I q l L=>
  let⟨M,N,f2,O,S,T⟩:=q g (aam.mpr rfl)
  W C D F (I.ok.hd G) I l L λf tk k=>⟨rfl,I.turned k M N O S T⟩
 self:=Y
def Dl{P:ZE}{w:ZH}{K:Zs}{J:ZT}(a z:Zl):Turn P w K J (Yd K a) [z] z (λi h=>h.IsListIter z a i):=
 rC "list_iterator" (λi h⟨o,e,c,d⟩=>⟨o,_,e,c,d⟩) (by decide) (λi h g f k=>f.at k)
  (λl m n hd I f⟨A,x,j,r⟩q=>by subst l m n;obtain⟨v,y,p,F⟩:=I.list j;obtain⟨u,G,H⟩:=y.get r;exact wpAny_pyNext_list_item f (p.isList) (x:=u) (by simpa using G) λg s B=>q u x g _ H ⟨rfl,λys C=>I.list_inj C j▸r⟩ s λb o D e=>(B.2 b D).trans e)
  (λl m n hd I f⟨A,j,r⟩q=>by subst l m n;obtain⟨v,y,p,F⟩:=I.list j;have L:=y.length;exact wpAny_pyNext_list_end hd f (p.isList) (by simp;omega) λg E=>q g _ E)
  λ_ _ _ _ _ f h=>wpAny_pyIter_listiter f h
def zG{P:ZE}{w:ZH}{K:Zs}{J:ZT}(a z:Zl):Turn P w K J (Y0 K a) [z] z (λi h=>h.IsTupleIter z a i):=
 rC "tuple_iterator" (λi h⟨o,e,c,d⟩=>⟨o,_,e,c,d⟩) (by decide) (λi h j f k=>f.at k)
  (λm n r hd I f⟨A,x,l,s⟩q=>by subst m n r;obtain⟨g,y,p,F⟩:=I.tuple l;obtain⟨u,G,H⟩:=y.get s;exact wpAny_pyNext_tuple_item f (show Heap.IsTuple _ a g.toArray from p) (x:=u) (by simpa using G) λj v B=>q u x j _ H ⟨rfl,λys C=>I.tuple_inj C l▸s⟩ v λb o D e=>(B.2 b D).trans e)
  (λm n r hd I f⟨A,l,s⟩q=>by subst m n r;obtain⟨g,y,p,F⟩:=I.tuple l;have L:=y.length;exact wpAny_pyNext_tuple_end hd f (show Heap.IsTuple _ a g.toArray from p) (by simp;omega) λj E=>q j _ E)
  λ_ _ _ _ _ f h=>wpAny_pyIter_tupleiter f h
def Ar{P:ZE}{w:ZH}{K:Zs}{y:ZT}(d:Zl)(p:Int)(n:Nat):Turn P w K y (Rx p n) [d] d (λi h=>IsRangeIter h d (p+(i:Nat)*1) ((n:Int)-(i:Nat)) 1):=
 rC "range_iterator" (λi h a=>⟨_,_,a,rfl,rfl⟩) (by decide) (λi h c a k=>k _ a)
  (λf g j hd I a l q=>by subst f g j;refine(Walks.range hd d p 1 n).item _ _ _ _ l a λv c tk r m kk=>?_;obtain⟨t,rfl⟩:=r;exact q _ (.int _) c tk ⟨t,rfl⟩ ⟨rfl,by rw[Int.mul_one]⟩ m λb o s e=>kk b o (by simpa using s) e)
  (λ{_ i _ _ _ _ _ _}f g j hd I a l q=>by subst f g j;exact wpAny_pyNext_range_end hd a (by have:n<=i:=l;omega) λc x=>q c _ x)
  λ_ _ _ _ _ a h=>wpAny_pyIter_rangeiter a h
def Cw(K:Zs)(e:TE):TI:=λc H R=>e c H λx b=>∃a,x=.ref a/\(∃d,fj K b a d)/\R (Yd K a) b
def XC(K:Zs)(e:TE):TI:=λc H R=>e c H λx b=>∃a,x=.ref a/\(∃d,gf K b a d)/\R (Y0 K a) b
def vU(I:Inv X a c H s)(T:Turn X.prog X.w X.K h J [s.heap.objs.size] s.heap.objs.size d)(g:d 0 (s.heap.push o))(q:R J H):
 PIE X a c h R (.ref s.heap.objs.size) {s with heap:=s.heap.push o,toks:=tk}:=
 ⟨_,_,_,_,H,rfl,I.kept λb o e=>aan _ e,T,g,λb f=>by cases aam.mp f;exact I.fpOk (aaf _) (I.hok.fresh (aaf _)),q⟩
def h_{X:Cx}{l:ZT}{d:TE}(i:PE X l d):PI X w l (Cw X.K d):=by intro b s f H R I h;refine gH (i b s f H _ I h) ?_;rintro v n⟨x,o,c,r1,a,rfl,⟨r,g⟩,q⟩;cases r1;obtain⟨e,j,p,m⟩:=c.list g;exact acA p.isList (vU c (Dl a _) ⟨_,aaC _ rfl,rfl,rfl⟩ q)
def kY{X:Cx}{l:ZT}{e:TE}(j:PE X l e):PI X w l (XC X.K e):=by intro b s f H R I h;refine gH (j b s f H _ I h) ?_;rintro v g⟨x,o,d,r1,a,rfl,⟨r,i⟩,q⟩;cases r1;obtain⟨c,m,p,n⟩:=d.tuple i;exact abT (show g.heap.IsTuple a c.toArray from p) (vU d (zG a _) ⟨_,aaC _ rfl,rfl,rfl⟩ q)
def G8{X:Cx}{c:YN}{f:St}{H:Hp}{s:Zp}{R:It->Hp->Prop}{E:ZY}{a d:Int}{t u v:Tok}{tk:Nat}(I:Inv X c f H s)(i:-(2 ^ 62)<=a)(j:a<2 ^ 62)(l:-(2 ^ 62)<=d)(m:d<2 ^ 62)
 (q:R (Rx a (d-a).toNat) H):wpAny (model X.prog X.w) X.A (pyIter (.ref s.heap.objs.size)) (PIE X c f n R) E {s with heap:=s.heap.push {cls:=.type "range",data:=.fields #[.int a t,.int d u,.int 1 v]},toks:=tk}:=by
 refine wpAny_pyIter_range (IsRange.new ..) (small_one i j l m) (vU (I.kept (t':=tk) λb o e=>aan _ e) (Ar _ a (d-a).toNat) ?_ q);have g:a+((0:Nat):Int)*1=a:=by simp
 have h:(((d-a).toNat:Nat):Int)-((0:Nat):Int)=Builtin.Range.rangeSize a d 1:=by rw[rangeSize_one];split<;>omega
 show IsRangeIter _ _ (a+((0:Nat):Int)*1) ((((d-a).toNat:Nat):Int)-((0:Nat):Int)) 1;rw[g,h];exact aaC _ rfl
def RL(c:TA):TI:=λa H R=>c a H λvs b=>∃j:Int,vs=[.int j]/\-(2 ^ 62)<=j/\j<2 ^ 62/\R (Rx 0 j.toNat) b
theorem kI{X:Cx}{a:ZT}{d:TA}{p c:Pos}(l:Gl X "range")(m:X.mg "range"=none)(n:PA X [a] d)(o:starEach [a] X.env=[(false,eval a X.env)]:=by rfl):PI X y (.Call (.Name "range" p) [a] [] c) (RL d):=by
 intro b s g H R I h;refine Call_ (oR I l m boot_range (abU (gH (n c b s g H _ I h) λv w⟨vs,x,f,r1,q1⟩=>?_) o rfl));obtain⟨j,e,q1,q2,q⟩:=q1;subst e;cases r1 with
 | cons r i=>cases i;obtain⟨t,rfl⟩:=r;exact call_range_1 (G8 f (by omega) (by omega) q1 q2 (by simpa using q))
abbrev FW(J:It)(g:TG)(h:TS)(D:Ends)(a:St)(H:Hp):Prop:=∃W:Nat->Nat->St->Hp->Prop,(∃m,W 0 m a H)/\∀i m a H,W i m a H->
 (J.stop i H/\D.nx a H)\/(J.go i H/\∃N:St->Hp->Prop,(∀b c,N b c->∃e,e<m/\W (i+1) e b c)/\∀x c,J.yld i H x c->g x a c λd f=>h {D with nx:=N,ct:=N,bk:=D.nx} d f)
def Xm(c:TI)(g:TG)(d:TS):TS:=λD a H=>c a H λJ b=>FW J g d D a b
noncomputable def lH(fp:YI)(h:ZN):List (Addr×Obj):=fp.filterMap λb=>(h.get? b).map λo=>(b,o)
def mO(a:b∈fp)(e:h.get? b=some o):(b,o)∈lH fp h:=List.mem_filterMap.mpr ⟨b,a,by rw[e];rfl⟩
theorem qd(d:p∈lH fp h):p.1∈fp/\h.get? p.1=some p.2:=by
 obtain⟨b,c,e⟩:=List.mem_filterMap.mp d;cases q:h.get? b with
 |none=>rw[q]at e;cases e
 | some o=>rw[q]at e;have a:(b,o)=p:=aaW e;subst a;exact⟨c,q⟩
def Inv.pinned(I:Inv X a g H s)(m:∀b∈fp,km X a H b)(n:∀b∈fp,∃o,s.heap.get? b=some o/\∀v,o.data≠.cell v):Inv X (a++lH fp s.heap) g H s:=
 I.pins_of λp h=>(aak.mp h).elim (λz=>I.pin p (aaE _ z)) λz=>by obtain⟨c,e⟩:=qd z;obtain⟨i,j,l,_⟩:=m p.1 c;obtain⟨o,f,d⟩:=n p.1 c;rw[e]at f;cases f;exact⟨e,i,j,l,d⟩
def Inv.unpinned(I:Inv X (a++d) b H s):Inv X a b H s:=I.pins_of λp c=>I.pin p (aaE _ (aaY _ c))
def j6{X:Cx}{A:ZT}{E:List Stmt}{wi:TI}{g:TG}{tb:TS}{pos:Pos}(Q:PassesOwn (model X.prog X.w) X.A X.env X.xe)(hc:X.calm=true)(hi:PI X tg A wi)(hg:PG X tg g)(j:Dq X E tb)
 (hs:∀x,foldedSetIterable A X.env x=pure x:=by intro _;rfl):PS X (.For tg A E [] pos) (Xm wi g tb):=by
 intro c s σ H D I h;refine wpAny_For (gH (hi c s σ H _ I h) λv s1 h1=>gH h1 λac s2 h2=>?_) hs;obtain⟨it,fp,tn,J,H2,e,I2,T,ab,f2,W,⟨m0,w0⟩,L⟩:=h2;subst e;have w:∀{B:Hp},(∀b∈fp,B b=none)->∀b∈fp,km X c B b:=λhn b j=>⟨hn b j,(f2 b j).2⟩;refine codeAny_forLoop_any (λn s'=>∃i q B,Inv X c q B s'/\tn i s'.heap/\(∀b∈fp,B b=none)/\W i n q B) ?_ m0 ⟨0,σ,H2,I2,ab,λb j=>(f2 b j).1,w0⟩;rintro n s3⟨i,z,R,I3,M,O,w3⟩;rcases L i n z R w3 with⟨P,qn⟩|⟨go,N,hN,step⟩
 ·refine abV Q (gH (T.done X rfl rfl rfl hc i c s3 z R X.xe I3 (w O) M P) λr s4⟨S,I4⟩=>?_);subst S;exact wpAny_execs_nil ⟨z,R,I4,qn⟩
 ·refine abV Q (gH (T.item X rfl rfl rfl hc i c s3 z R X.xe I3 (w O) M go) λr s4⟨u,S,h4⟩=>?_);subst S;refine abV Q (gH h4 λ_ s5⟨x,H5,I5,r5,y5,F,U⟩=>?_);have aa:=I5.pinned (w U) (T.obj _ _ F);refine abV Q (gH (hg _ s5 z H5 x u _ aa r5 (step x H5 y5)) λ_ s6⟨Y,H6,I6,q6⟩=>?_);refine abV Q (gH (j _ s6 Y H6 _ I6 q6) λf Z C=>?_);have y:∀{a:St}{l:Hp},Inv X (c++lH fp s5.heap) a l Z->N a l->∃m,m<n/\∃i q B,Inv X c q B Z/\tn i Z.heap/\(∀b∈fp,B b=none)/\W i m q B:=λ{a l}p G=>by obtain⟨m',hm,w7⟩:=hN a l G;refine⟨m',hm,i+1,a,l,p.unpinned,T.keep _ _ _ F λb j o e=>(p.pin (b,o) (aaE _ (aaE _ (mO j e)))).1,λb j=>?_,w7⟩;obtain⟨o,e,d⟩:=T.obj _ _ F b j;exact(p.pin (b,o) (aaE _ (aaE _ (mO j e)))).2.1
  cases f with
  |next=>obtain⟨a,l,p,G⟩:=C;exact y p G
  |cont=>obtain⟨a,l,p,G⟩:=C;exact y p G
  |brk=>obtain⟨a,l,p,C⟩:=C;exact⟨a,l,p.unpinned,C⟩
  |ret v=>obtain⟨x7,a,l,p,r7,C⟩:=C;exact⟨x7,a,l,p.unpinned,r7,C⟩
def pK(b:Nat->St->Hp->Prop)(o:b 0 a H)(hd:∀a H,b n a H->J.stop n H/\D.nx a H)
 (f:∀i a H,i<n->b i a H->J.go i H/\∀x d,J.yld i H x d->g x a d λc j=>e {D with nx:=b (i+1),ct:=b (i+1),bk:=D.nx} c j):FW J g e D a H:=by
 refine⟨λi m a H=>m=n-i/\i<=n/\b i a H,⟨_,rfl,aaJ _,o⟩,?_⟩;rintro i m a H⟨rfl,l,p⟩;rcases Nat.lt_or_eq_of_le l with h|rfl
 ·exact .inr ⟨(f i a H h p).1,b (i+1),λ_ _ z=>⟨_,by omega,rfl,h,z⟩,(f i a H h p).2⟩
 ·exact .inl (hd a H p)
def iW{S:Hp->List V->Prop}{xs:List V}{g:TG}{f:TS}{D:Ends}{a:St}{H:Hp}(b:Nat->St->Hp->Prop)(l:b 0 a H)(d:∀i a H,i<=xs.length->b i a H->S H xs)
 (m:∀i x a H,xs[i]?=some x->b i a H->g x a H λc j=>f {D with nx:=b (i+1),ct:=b (i+1),bk:=D.nx} c j)(hd:∀a H,b xs.length a H->D.nx a H):FW (Ua S) g f D a H:=
 pK b l (λa H p=>⟨⟨xs,d _ a H (aaf _) p,aaf _⟩,hd a H p⟩) λi a H h p=>⟨⟨xs,xs[i],d i a H (aaX h) p,by simp[h]⟩,λx _⟨e,y⟩=>by subst e;exact m i x a _ (y xs (d i a _ (aaX h) p)) p⟩
def qb{lo:Int}{n:Nat}{g:TG}{d:TS}{D:Ends}{a:St}{H:Hp}(b:Nat->St->Hp->Prop)(j:b 0 a H)
 (l:∀i a H,i<n->b i a H->g (.int (lo+i)) a H λc f=>d {D with nx:=b (i+1),ct:=b (i+1),bk:=D.nx} c f)(hd:∀a H,b n a H->D.nx a H):FW (Rx lo n) g d D a H:=
 pK b j (λa H p=>⟨aaf _,hd a H p⟩) λi a H h p=>⟨h,λx _⟨e,y⟩=>by subst e y;exact l i a _ h p⟩
abbrev R2:=V->V->Hp->VK->Prop
noncomputable def m_(X:Cx)(f:Value->Value->Sem Value)(r:R2):Prop:=
 ∀(a:YN)(s:Zp)(b:St)(H:Hp)(x y:V)(v u:ZI)(Q:VK),Inv X a b H s->RelV x v->RelV y u->r x y H Q->
   wpAny (model X.prog X.w) X.A (f v u) (EP X a b Q) X.xe s
noncomputable def Y_(X:Cx)(f:Value->Sem Value)(r:V->Hp->VK->Prop):Prop:=
 ∀(a:YN)(s:Zp)(b:St)(H:Hp)(x:V)(v:ZI)(Q:VK),Inv X a b H s->RelV x v->r x H Q->
   wpAny (model X.prog X.w) X.A (f v) (EP X a b Q) X.xe s
noncomputable def jX(X:Cx)(f:ZI)(r:List V->Hp->VK->Prop):Prop:=
 ∀(a:YN)(s:Zp)(b:St)(H:Hp)(c:List V)(d:Y3)(Q:VK),Inv X a b H s->Vals c d->r c H Q->
   wpAny (model X.prog X.w) X.A (call f d) (EP X a b Q) X.xe s
noncomputable def Xb(X:Cx)(r:V->Hp->(Bool->Hp->Prop)->Prop):Prop:=
 ∀(a:YN)(s:Zp)(b:St)(H:Hp)(x:V)(v:ZI)(Q:Bool->Hp->Prop),Inv X a b H s->RelV x v->r x H Q->
   wpAny (model X.prog X.w) X.A (truthy v) (TP X a b Q) X.xe s
def RG(r:R2)(d e:TE):TE:=λa H Q=>d a H λx b=>e a b λy c=>r x y c Q
def Zk(r:V->Hp->VK->Prop)(c:TE):TE:=λa H Q=>c a H λx b=>r x b Q
noncomputable def rI(C:Int->Int->Prop)(g:Int->Int->V):R2:=λx y H Q=>∃i j,x=.int i/\y=.int j/\C i j/\Q (g i j) H
noncomputable def Jr(g:Int->Int->V):R2:=λx y H Q=>∃i j,x=.int i/\y=.int j/\Q (g i j) H
noncomputable def rU(g:Int->V):V->Hp->VK->Prop:=λx H Q=>∃i,x=.int i/\Q (g i) H
section
variable{X:Cx}{a b c:ZT}{ta tb tc:TE}{pos:Pos}
def Py(q:PE X a ta)(r:PE X b tb){d:YN}{s:Zp}{g:St}{H:Hp}{R:V->V->Hp->Prop}(I:Inv X d g H s)
 (h:ta g H λx m=>tb g m λy e=>R x y e){Q:ZY}{f:Value->Value->Sem Value}
 (w:∀v u l x y e,Inv X d g e l->RelV x v->RelV y u->R x y e->wpAny (model X.prog X.w) X.A (f v u) Q X.xe l):
 wpAny (model X.prog X.w) X.A (eval a X.env) (λv i=>wpAny (model X.prog X.w) X.A (eval b X.env) (λu j=>wpAny (model X.prog X.w) X.A (f v u) Q X.xe j) X.xe i) X.xe s:=by
 refine gH (q d s g H _ I h) λv n⟨x,m,o,r1,q1⟩=>?_;refine gH (r d n g m _ o q1) λu l⟨y,e,p,r2,q2⟩=>?_;exact w v u l x y e p r1 r2 q2
def fX(m:m_ X (binaryOp op) r)(n:PE X a ta)(o:PE X b tb):PE X (.BinOp a op b pos) (RG r ta tb):=by intro d s l H Q I h;exact wpAny_BinOp (Py n o I h λv u e x y f g i j q=>m d e l f x y v u Q g i j q)
def oh{op:UnaryOp}{r:V->Hp->VK->Prop}(j:Y_ X (unaryOp op) r)(l:PE X a ta):PE X (.UnaryOp op a pos) (Zk r ta):=by intro d s e H Q I h;exact UnaryOp_ (gH (l d s e H _ I h) λv f⟨x,g,i,r1,q1⟩=>j d f e g x v Q i r1 q1)
def Ul{f:Value->Value->Sem Value}{C:Int->Int->Prop}{g:Int->Int->Int}
 (d:∀(i j:Int)(t u:Tok)(s:Zp)(Q:ZY)(E:ZY),C i j->Q (.int (g i j) s.toks) {s with toks:=s.toks+1}->wpAny (model X.prog X.w) X.A (f (.int i t) (.int j u)) Q E s):
 m_ X f (rI C λi j=>.int (g i j)):=by
 intro e s p H x y v u Q I n o h;obtain⟨i,j,rfl,rfl,l,q⟩:=h;obtain⟨t,rfl⟩:=n;obtain⟨m,rfl⟩:=o;exact d i j t m s _ _ l ⟨.int (g i j),H,I.tok _,⟨_,rfl⟩,q⟩
def Vr{f:Value->Value->Sem Value}{g:Int->Int->Int}
 (d:∀(i j:Int)(t u:Tok)(s:Zp)(Q:ZY)(E:ZY),Q (.int (g i j) s.toks) {s with toks:=s.toks+1}->wpAny (model X.prog X.w) X.A (f (.int i t) (.int j u)) Q E s):
 m_ X f (Jr λi j=>.int (g i j)):=by
 intro e s o H x y v u Q I m n h;obtain⟨i,j,rfl,rfl,q⟩:=h;obtain⟨t,rfl⟩:=m;obtain⟨l,rfl⟩:=n;exact d i j t l s _ _ ⟨.int (g i j),H,I.tok _,⟨_,rfl⟩,q⟩
def Ks{f:Value->Value->Sem Value}{g:Int->Int->Bool}
 (d:∀(i j:Int)(t u:Tok)(s:Zp)(Q:ZY)(E:ZY),Q (.bool (g i j)) s->wpAny (model X.prog X.w) X.A (f (.int i t) (.int j u)) Q E s):
 m_ X f (Jr λi j=>.bl (g i j)):=by
 intro e s o H x y v u Q I m n h;obtain⟨i,j,rfl,rfl,q⟩:=h;obtain⟨t,rfl⟩:=m;obtain⟨l,rfl⟩:=n;exact d i j t l s _ _ ⟨.bl (g i j),H,I,rfl,q⟩
def YB(i j:Int):Prop:=0<j/\j<1073741824
def Xg(i j:Int):Prop:=0<=j/\j<=1000000/\i.natAbs<2 ^ 64
def Kl(i j:Int):Prop:=(-(2 ^ 64)<i/\i<2 ^ 64)\/(-(2 ^ 64)<j/\j<2 ^ 64)
def Kl.ok(h:Kl i j):IntMulOk i j:=by
 rcases h with⟨d,e⟩|⟨d,e⟩
 ·exact .of_left (intBits_le_64 d e)
 ·exact .of_right (intBits_le_64 d e)
def iI:m_ X (binaryOp .Add) (Jr λi j=>.int (i+j)):=Vr λ_ _ _ _ _ _ _ q=>add_int q
def jR:m_ X (binaryOp .Sub) (Jr λi j=>.int (i-j)):=Vr λ_ _ _ _ _ _ _ q=>sub_int q
def oU:m_ X (binaryOp .Mult) (rI Kl λi j=>.int (i*j)):=Ul λ_ _ _ _ _ _ _ d q=>mul_int q d.ok
def Cg:m_ X (binaryOp .FloorDiv) (rI YB λi j=>.int (i/j)):=Ul λi j _ _ _ _ _ d q=>by have e:(0:Int)<j:=d.1;have f:j<1073741824:=d.2;exact floordiv_int (by omega) (by rw[ac2 i (by omega)];exact q) (.inl (PyProof.noPylong_small (by omega)))
def lX:m_ X (binaryOp .Mod) (rI (λ_ j=>0<j) λi j=>.int (i % j)):=Ul λi j _ _ _ _ _ d q=>by have e:(0:Int)<j:=d;exact mod_int' (by omega) (by rw[Int.fmod_eq_emod_of_nonneg i (by omega)];exact q)
def Oa:m_ X (binaryOp .Pow) (rI Xg λi j=>.int (i ^ j.toNat)):=Ul λ_ _ _ _ _ _ _ d q=>pow_int_small d.1 d.2.1 d.2.2 q
def unI{f:Value->Sem Value}{g:Int->Int}
 (d:∀(i:Int)(t:Tok)(s:Zp)(Q:ZY)(E:ZY),Q (.int (g i) s.toks) {s with toks:=s.toks+1}->wpAny (model X.prog X.w) X.A (f (.int i t)) Q E s):
 Y_ X f (rU λi=>.int (g i)):=by
 intro e s l H x v Q I j h;obtain⟨i,rfl,q⟩:=h;obtain⟨t,rfl⟩:=j;exact d i t s _ _ ⟨.int (g i),H,I.tok _,⟨_,rfl⟩,q⟩
def lV:Y_ X (unaryOp .USub) (rU λi=>.int (-i)):=unI λ_ _ _ _ _ q=>neg_int q
end
noncomputable def Tf:V->V->Bool
 |.non,.non=>true|.non,.int _=>true|.int _,.non=>true|.non,.bl _=>true|.bl _,.non=>true|.non,.str _=>true|.str _,.non=>true
 |.int _,.int _=>true|.bl _,.bl _=>true|.str _,.str _=>true|.byt _,.byt _=>true
 |.int _,.str _=>true|.str _,.int _=>true|.bl _,.str _=>true|.str _,.bl _=>true
 |_,_=>false
noncomputable def Xw:R2:=λx y H Q=>Tf x y=true/\Q (.bl (decide (x=y))) H
noncomputable def ZD:R2:=λx y H Q=>Tf x y=true/\Q (.bl (!decide (x=y))) H
def B_:decide (V.int i=V.int j)=(i==j):=by rw [aba];simp
def IW:decide (V.bl i=V.bl j)=(i==j):=by rw [aba];simp
def lU:decide (V.str i=V.str j)=(i==j):=by rw [aba];simp
def Bt:decide (V.byt i=V.byt j)=(i.toList==j.toList):=by rw [aba];cases i;cases j;simp
def gB(I:Inv X d f H s)(q:Q (.bl k) H)(e:k=g):EP X d f Q (.bool g) s:=by subst e;exact⟨.bl k,H,I,rfl,q⟩
theorem gG:m_ X (compareOp .Eq) Xw:=by
 intro l s m H x y v u Q I g d h;obtain⟨f,q⟩:=h;cases x with
 | non=>
   cases g;cases y with
   |non=>cases d;exact PySem.EqNone.eq_none_none (gB I q (by simp))
   |bl j=>cases d;exact PySem.EqNone.eq_none_bool (gB I q (by simp))
   |int j=>obtain⟨e,rfl⟩:=d;exact PySem.EqNone.eq_none_int (gB I q (by simp))
   |str j=>obtain⟨e,rfl⟩:=d;exact PySem.EqNone.eq_none_str (gB I q (by simp))
   |_=>exact absurd (show false=true from f) aaH
 | bl i=>
   cases g;cases y with
   |non=>cases d;exact PySem.EqNone.eq_bool_none (gB I q (by simp))
   |bl j=>cases d;exact eq_bool (gB I q IW)
   |str j=>obtain⟨e,rfl⟩:=d;exact PySem.EqMixed.eq_bool_str (gB I q (by simp))
   |_=>exact absurd (show false=true from f) aaH
 | int i=>
   obtain⟨t,rfl⟩:=g;cases y with
   |non=>cases d;exact PySem.EqNone.eq_int_none (gB I q (by simp))
   |int j=>obtain⟨e,rfl⟩:=d;exact eq_int (gB I q B_)
   |str j=>obtain⟨e,rfl⟩:=d;exact PySem.EqMixed.eq_int_str (gB I q (by simp))
   |_=>exact absurd (show false=true from f) aaH
 | str i=>
   obtain⟨t,rfl⟩:=g;cases y with
   |non=>cases d;exact PySem.EqNone.eq_str_none (gB I q (by simp))
   |bl j=>cases d;exact PySem.EqMixed.eq_str_bool (gB I q (by simp))
   |int j=>obtain⟨e,rfl⟩:=d;exact PySem.EqMixed.eq_str_int (gB I q (by simp))
   |str j=>obtain⟨e,rfl⟩:=d;exact eq_str (gB I q lU)
   |_=>exact absurd (show false=true from f) aaH
 | byt i=>
   obtain⟨t,rfl⟩:=g;cases y with
   |byt j=>obtain⟨e,rfl⟩:=d;exact PySem.W.eq_bytes (gB I q Bt)
   |_=>exact absurd (show false=true from f) aaH
 |_=>cases y<;>exact absurd (show false=true from f) aaH
theorem uw:m_ X (compareOp .NotEq) ZD:=by
 intro l s m H x y v u Q I g d h;obtain⟨f,q⟩:=h;cases x with
 | non=>
   cases g;cases y with
   |non=>cases d;exact PySem.EqNone.ne_none_none (gB I q (by simp))
   |bl j=>cases d;exact PySem.EqNone.ne_none_bool (gB I q (by simp))
   |int j=>obtain⟨e,rfl⟩:=d;exact PySem.EqNone.ne_none_int (gB I q (by simp))
   |str j=>obtain⟨e,rfl⟩:=d;exact PySem.EqNone.ne_none_str (gB I q (by simp))
   |_=>exact absurd (show false=true from f) aaH
 | bl i=>
   cases g;cases y with
   |non=>cases d;exact PySem.EqNone.ne_bool_none (gB I q (by simp))
   |bl j=>cases d;exact ne_bool (gB I q (aaB not IW))
   |str j=>obtain⟨e,rfl⟩:=d;exact PySem.EqMixed.ne_bool_str (gB I q (by simp))
   |_=>exact absurd (show false=true from f) aaH
 | int i=>
   obtain⟨t,rfl⟩:=g;cases y with
   |non=>cases d;exact PySem.EqNone.ne_int_none (gB I q (by simp))
   |int j=>obtain⟨e,rfl⟩:=d;exact ne_int (gB I q (aaB not B_))
   |str j=>obtain⟨e,rfl⟩:=d;exact PySem.EqMixed.ne_int_str (gB I q (by simp))
   |_=>exact absurd (show false=true from f) aaH
 | str i=>
   obtain⟨t,rfl⟩:=g;cases y with
   |non=>cases d;exact PySem.EqNone.ne_str_none (gB I q (by simp))
   |bl j=>cases d;exact PySem.EqMixed.ne_str_bool (gB I q (by simp))
   |int j=>obtain⟨e,rfl⟩:=d;exact PySem.EqMixed.ne_str_int (gB I q (by simp))
   |str j=>obtain⟨e,rfl⟩:=d;exact ne_str (gB I q (aaB not lU))
   |_=>exact absurd (show false=true from f) aaH
 | byt i=>
   obtain⟨t,rfl⟩:=g;cases y with
   |byt j=>obtain⟨e,rfl⟩:=d;exact PySem.W.ne_bytes (gB I q (aaB not Bt))
   |_=>exact absurd (show false=true from f) aaH
 |_=>cases y<;>exact absurd (show false=true from f) aaH
def uz:m_ X (compareOp .Lt) (Jr λi j=>.bl (decide (i<j))):=Ks λ_ _ _ _ _ _ _ q=>lt_int q
def jN:m_ X (compareOp .LtE) (Jr λi j=>.bl (decide (i<=j))):=Ks λ_ _ _ _ _ _ _ q=>le_int q
def yI:m_ X (compareOp .Gt) (Jr λi j=>.bl (decide (j<i))):=Ks λ_ _ _ _ _ _ _ q=>gt_int q
def Bg:m_ X (compareOp .GtE) (Jr λi j=>.bl (decide (j<=i))):=Ks λ_ _ _ _ _ _ _ q=>ge_int q
def wX:m_ X (compareOp .Is) (λx y H Q=>y=.non/\Q (.bl (decide (x=.non))) H):=by
 intro d s g H x y v u Q I e f h;obtain ⟨rfl,q⟩:=h;cases f;refine is_none_gen (gB I q ?_);cases x<;>first
  |(cases e;rfl)
  |(obtain ⟨t,rfl⟩:=e;rfl)
def Cy:m_ X (compareOp .IsNot) (λx y H Q=>y=.non/\Q (.bl (!decide (x=.non))) H):=by
 intro d s g H x y v u Q I e f h;obtain ⟨rfl,q⟩:=h;cases f;refine isnot_none_gen (gB I q ?_);cases x<;>first
  |(cases e;rfl)
  |(obtain ⟨t,rfl⟩:=e;rfl)
def dN(b:ZT)(h:op≠.In:=by decide)(f:op≠.NotIn:=by decide):behindInMarks op b=false:=by
 have d:(op==CmpOp.In)=false:=by cases op<;>first|rfl|exact absurd rfl h
 have e:(op==CmpOp.NotIn)=false:=by cases op<;>first|rfl|exact absurd rfl f
 cases b<;>simp[behindInMarks,d,e]
def iz(m:m_ X (compareOp op) r)(n:PE X a z)(o:PE X b w)(p:behindInMarks op b=false):PE X (.Compare a [op] [b] c) (RG r z w):=by intro d s l H Q I h;exact wpAny_Compare1 (Py n o I h λv u e x y f g i j q=>m d e l f x y v u Q g i j q) p
def uN(t:TE):TT:=λd H Q=>t d H λx e=>∃k,x=.bl k/\Q k e
def dM{op:CmpOp}{r:R2}(w:m_ X (compareOp op) r)(A:PE X a G)(B:PE X b F)(C:behindInMarks op b=false):PT X (.Compare a [op] [b] E) (uN (RG r G F)):=by intro d s f H Q I h;refine wpAny_isTrue_Compare1 (gH (A d s f H _ I h) λv g⟨x,i,j,r1,q1⟩=>gH (B d g f i _ j q1) λu l⟨y,m,n,r2,q2⟩=>gH (w d l f m x y v u _ n r1 r2 q2) λc D⟨z,o,p,r3,k,e,q⟩=>?_) C;subst e;cases r3;exact aa0 ⟨o,p,q⟩
noncomputable def zA(r j:R2)(l m n:TE):TE:=λd H Q=>l d H λx f=>m d f λy g=>r x y g λz e=>∃k,z=.bl k/\
 (if k=true then n d e λh i=>j y h i Q else Q (.bl false) e)
theorem yN{op g:CmpOp}{r o:R2}(N:m_ X (compareOp op) r)(j:m_ X (compareOp g) o)(O:PE X a Y)(P:PE X b W)(R:PE X c U)
 (S:lastMarks [op,g] [b,c]=false:=by with_unfolding_all rfl):PE X (.Compare a [op,g] [b,c] T) (zA r o Y W U):=by
 intro f s i H Q I h;refine Compare_chain (gH (O f s i H _ I h) λv p⟨x,q,w,r1,q1⟩=>chain_link (gH (P f p i q _ w q1) λu A⟨y,B,C,r2,q2⟩=>gH (N f A i B x y v u _ C r1 r2 q2) λd D⟨z,l,m,r3,k,e,n⟩=>?_)) S;subst e;cases r3;refine aa0 ?_;cases k with
 |false=>exact ite_ff ⟨.bl false,l,m,rfl,n⟩
 |true=>exact ite_tt (chain_last (gH (R f D i l _ m n) λE F⟨G,J,L,r4,M⟩=>j f F i J y G u E Q L r2 r4 M))
theorem pR{op g:CmpOp}{r o:R2}(U:m_ X (compareOp op) r)(j:m_ X (compareOp g) o)(W:PE X a ta)(Y:PE X b tb)(Z:PE X c tc)
 (hm:lastMarks [op,g] [b,c]=false:=by with_unfolding_all rfl):PT X (.Compare a [op,g] [b,c] pos) (uN (zA r o ta tb tc)):=by
 intro f s i H Q I h;refine isTrue_chain (gH (W f s i H _ I h) λv p⟨x,q,w,r1,q1⟩=>test_link (gH (Y f p i q _ w q1) λu A⟨y,B,C,r2,q2⟩=>gH (U f A i B x y v u _ C r1 r2 q2) λd D⟨z,l,m,r3,k,e,n⟩=>?_)) hm;subst e;cases r3;refine aa0 ?_;cases k with
 | false=>obtain⟨k',S,T⟩:=n;cases S;exact ite_ff ⟨l,m,T⟩
 | true=>refine ite_tt (test_last (gH (Z f D i l _ m n) λE F⟨G,J,L,r4,M⟩=>gH (j f F i J y G u E _ L r2 r4 M) λd' s5⟨z2,N,O,r5,k2,P,R⟩=>?_));subst P;cases r5;exact aa0 ⟨N,O,R⟩
noncomputable def Us(K:Zs)(x:V)(H:Hp)(k:Bool):Prop:=
 match x with
 |.non=>k=false
 |.bl b=>k=b
 |.int i=>k=(i !=0)
 |.str y=>y.length<=sizeLine/\k=((y.length:Int)!=0)
 |.byt y=>y.size<=sizeLine/\k=((y.size:Int)!=0)
 |.ref p=>(∃xs,fj K H p xs/\k=!xs.isEmpty)\/(∃xs,gf K H p xs/\k=!xs.isEmpty)\/∃kvs,H p=some (.dK kvs)/\k=!kvs.isEmpty
 |_=>False
def Aw{κ:Type}{kvs:List (κ×V)}{vs:List (κ×Value)}(r:KV kvs vs):(!vs.isEmpty)=!kvs.isEmpty:=by cases r<;>rfl
def rP(r:Vals xs its):(!its.toArray.isEmpty)=!xs.isEmpty:=by cases r<;>simp
def pW:(sizeLine:Nat)<2 ^ 63:=by rw[sizeLine_eq];decide
theorem Qg{X:Cx}:Xb X (λx H Q=>∃k,Us X.K x H k/\Q k H):=by
 intro eH s σ H x v Q I rx h;obtain⟨k,e,q⟩:=h;have hl:=pW;have hs:sizeLine=16777216:=sizeLine_eq;cases x with
 | non=>cases rx;have e':k=false:=e;subst e';exact truthy_none ⟨H,I,q⟩
 | bl b=>cases rx;have e':k=b:=e;subst e';exact aa0 ⟨H,I,q⟩
 | int i=>obtain⟨t,rfl⟩:=rx;have e':k=(i !=0):=e;subst e';exact PySem.P.truthy_int ⟨H,I,q⟩
 | str y=>obtain⟨t,rfl⟩:=rx;obtain⟨hy,e'⟩:y.length<=sizeLine/\k=((y.length:Int)!=0):=e;subst e';exact PySem.P.truthy_str (by omega) ⟨H,I.tok _,q⟩
 | byt y=>obtain⟨t,rfl⟩:=rx;obtain⟨hy,e'⟩:y.size<=sizeLine/\k=((y.size:Int)!=0):=e;subst e';exact PySem.W.truthy_bytes (by omega) ⟨H,I.tok _,q⟩
 | ref p=>
   cases rx;have e':(∃xs,fj X.K H p xs/\k=!xs.isEmpty)\/(∃xs,gf X.K H p xs/\k=!xs.isEmpty)\/∃kvs,H p=some (.dK kvs)/\k=!kvs.isEmpty:=e;rcases e' with⟨xs,hx,e'⟩|⟨xs,hx,e'⟩|⟨kvs,hx,e'⟩
   ·subst e';obtain⟨its,r,pl,hz⟩:=I.list hx;have hlen:=r.length;exact wpAny_truthy_list pl.isList (by simp only[aau];omega) ⟨H,I.tok _,by rw[rP r];exact q⟩
   ·subst e';obtain⟨its,r,pl,hz⟩:=I.tuple hx;have hlen:=r.length;exact truthy_tuple pl (by simp only[aau];omega) ⟨H,I.tok _,by rw[rP r];exact q⟩
   ·subst e';obtain⟨hz,hS,vs,r,m⟩:kvs.length<=sizeLine/\(p==sysModules)=false/\∃vs,KV kvs vs/\s.heap.DictOf (iC X.prog X.w) p vs:=I.hok p _ hx;have hlen:kvs.length=vs.length:=aaV r;exact wpAny_truthy_dict hS m (by omega) ⟨H,I.tok _,by rw[Aw r];exact q⟩
 |_=>exact(show False from e).elim
def Ht{X:Cx}{a:ZT}{b:TE}(m:PE X a b)(n:∀d,isTrue a X.env d=(do let v<-d;standAt a.pos;holding [v] (truthy v))):
 PT X a (λf H Q=>b f H λx g=>∃k,Us X.K x g k/\Q k g):=by
 intro e s f H Q I h;exact isTrue_plain (gH (m e s f H _ I h) λv i⟨x,j,l,r1,q1⟩=>Qg e i f j x v Q l r1 q1) (n _)
def oN:m_ X (binaryOp .Add) (λx y H Q=>∃i j,x=.str i/\y=.str j/\i.length+j.length<=sizeLine/\Q (.str (i++j)) H):=by intro d s m H x y v u Q I g l h;obtain⟨i,j,rfl,rfl,f,q⟩:=h;obtain⟨t,rfl⟩:=g;obtain⟨e,rfl⟩:=l;exact add_str (λe tk=>⟨.str (i++j),H,I.tok _,⟨_,rfl⟩,q⟩) f
theorem vals1(r:Vals [x] d):∃u,d=[u]/\RelV x u:=by
 cases r with
 |cons r1 r2=>cases r2;exact⟨_,rfl,r1⟩
theorem vals2(r:Vals [x,y] e):∃u d,e=[u,d]/\RelV x u/\RelV y d:=by
 cases r with
 | cons r1 r2=>
   cases r2 with
   |cons r3 r4=>cases r4;exact⟨_,_,rfl,r1,r3⟩
def Ep(g:X.calm=true):jX X (.builtin "max") (λe H Q=>∃i j,e=[.int i,.int j]/\Q (.int (if j >i then j else i)) H):=by
 intro f s o H e p Q I r h;obtain⟨i,j,rfl,q⟩:=h;obtain⟨u,m,rfl,⟨t,rfl⟩,⟨n,rfl⟩⟩:=vals2 r;refine max_two_ints (I.ok.hd g) λl tk k=>⟨_,H,I.kept k,?_,q⟩;by_cases d:j >i
 ·rw[aac d,aac d];exact⟨_,rfl⟩
 ·rw[aab d,aab d];exact⟨_,rfl⟩
def CQ(g:X.calm=true):jX X (.builtin "min") (λe H Q=>∃i j,e=[.int i,.int j]/\Q (.int (if j<i then j else i)) H):=by
 intro f s o H e p Q I r h;obtain⟨i,j,rfl,q⟩:=h;obtain⟨u,m,rfl,⟨t,rfl⟩,⟨n,rfl⟩⟩:=vals2 r;refine min_two_ints (I.ok.hd g) λl tk k=>⟨_,H,I.kept k,?_,q⟩;by_cases d:j<i
 ·rw[aac d,aac d];exact⟨_,rfl⟩
 ·rw[aab d,aab d];exact⟨_,rfl⟩
structure zK(h:ZN)(x dx C:Zl)(mA:Y1):Prop where
 obj:h.get? x=some (PySem.W.instObj C dx)
 ns:h.Ns1 dx mA
 ne:dx≠x
set_option tactic.hygienic true in
def Et{h:ZN}{g:Y1}(n:h.Ns1 f g):∃od,h.get? f=some od/\∀b,PySem.W.lookIn b od=some (g b):=by
 obtain⟨o,d,p,j,hd,hk,_,l⟩:=n;refine⟨o,j,λb=>?_⟩;have e:=l b;unfold nsFind findBy at e;rw[<-Array.find?_toList]at e;unfold PySem.W.lookIn;rw[hd];dsimp only;split
 ·rename_i y q;rw[q]at e;exact aaB some e
 ·rename_i q;rw[q]at e;have a:d.toList.any (·.refKey)=false:=by rw[acB];intro y m;obtain⟨z,t,c⟩:=hk y (Array.mem_toList_iff.mp m);simp[DictEntry.refKey,c]
  have i:¬d.toList.any (·.refKey)=true:=by rw[a];exact aaH
  rw[aab i];exact aaB some e
def zK.look(I:zK h x b C c):∃od,PySem.W.InstAt h x (PySem.W.instObj C b) C (some od)/\∀a,PySem.W.lookIn a od=some (c a):=
 let⟨od,d,e⟩:=Et I.ns
 ⟨od,⟨I.obj,rfl,rfl,d⟩,e⟩
section
variable{prog:ZE}{w:ZH}{A:ZO}{E:ZY}{s:Zp}{K:Zs}{x dx C f:Zl}{mA:Y1}{name:Str}{v:ZI}
def o6{a:Bool}{Q:ZY}(X:K.In s.heap)(I:zK s.heap x dx C mA)(d:PySem.W.plainGet K C name=true)(e:PySem.W.hasDictIn K C=true)
 (g:PySem.W.findIn K (.ref C) name=some none)(i:mA name=some v)(b:PySem.W.handedIn v=true)(h:Q v {s with toks:=s.toks+1}):
 wpAny (model prog w) A (getAttr (.ref x) name a) Q E s:=by
 obtain⟨od,J,c⟩:=I.look;exact PySem.W.get_value X J (acC d).1 (PySem.W.findObj_own e g rfl (by rw[c,i])) b h
def Fx(X:K.In s.heap)(I:zK s.heap x dx C mA)(a:PySem.W.plainGet K C name=true)
 (d:PySem.W.findIn K (.ref C) name=some (some (.ref f)))(e:PySem.W.isFn K (.ref f)=true)(g:mA name=none)(h:Q (.ref f,[.ref x]) s):
 wpAny (model prog w) A (getMethod (.ref x) name c) Q E s:=by
 obtain⟨od,J,b⟩:=I.look;exact PySem.W.method_fn X J (acC a).1 (acC a).2 d (abb.mp e) (by show(PySem.W.lookIn name od).map (·.isSome)=some false;rw[b,g];rfl) h
def Lr(X:K.In s.heap)(I:zK s.heap x dx C mA)
 (z:PySem.W.findIn K (.ref C) "__setattr__"=some (some (.builtin "object.__setattr__")))(B:PySem.W.plainOver K C=true)(D:PySem.W.takerIn K C name=some none)(F:PySem.W.hasDictIn K C=true)
 (G:PySem.Within mA m)(H:m.length<=sizeLine)
 (h:∀e,zK e x dx C (λy=>if y=name then some v else mA y)->Heap.SameBut dx s.heap e->Q () {s with heap:=e,toks:=s.toks+2}):
 wpAny (model prog w) A (setAttr (.ref x) name v) Q E s:=by
 obtain⟨od,J,L⟩:=I.look;refine PySem.W.set_plain X J z (PySem.W.osa_open (s:={s with toks:=s.toks+1}) (r:=none) X J B D λb=>?_);obtain⟨cd,o,g⟩:=PySem.W.any_some F;have n:s.heap.get? x=some ⟨.ref C,some dx,.plain,#[]⟩:=I.obj;refine aaa (aae (aaa (aaa (wpAny_loadPart n (aaa (PySem.W.Looks.here (s:={s with toks:=s.toks+1}) (PySem.W.looks_clsIn X o) ?_))))));rw[g];refine aae (a:=some dx) (aaa (aae (aaa ?_)));refine wpAny_nsSet1 (s:={s with toks:=s.toks+1}) I.ns λe c d=>?_;obtain⟨M,p,q,i,j,l⟩:=c.count (PySem.Within.cons name v G);refine aaa (wpAny_lookBehind i (by rw[j];exact pastItsLine_dict (aag l (by rw[aav];omega))) ?_);exact aae (h _ ⟨(d.2 _ (aaI I.ne)).trans I.obj,c,I.ne⟩ d)
def yg(X:K.In s.heap)(c:PySem.W.makesIn K C=true)
 (e:PySem.W.findIn K (.ref C) "__init__"=some (some (.ref f)))(i:PySem.W.typeIn K (.ref f)=some (.type "function"))
 (h:codeAny (model prog w) (A.under (.builtin "type.__call__" ⟨.ref C::vs,b⟩)) (.call (.ref f) ⟨.ref (s.heap.objs.size+1)::vs,b⟩) (PySem.W.InitBack (s.heap.objs.size+1) R) {s with heap:=(s.heap.push PySem.W.emptyDict).push (PySem.W.instObj C s.heap.objs.size)}):
 codeAny (model prog w) A (.call (.ref C) ⟨vs,b⟩) R s:=by
 obtain⟨j,g,d,t,l⟩:=s;exact PySem.W.make_core (PySem.W.makes_of X c) (PySem.W.looks_findIn X e) (λa=>PySem.W.bind_fn X a i) (.inl rfl) h
end
noncomputable def gJ(f:Str)(v:V):List (Str×V)->List (Str×V)
 |[]=>[(f,v)]
 |(g,x)::r=>if g=f then(g,v)::r else(g,x)::gJ f v r
theorem jg(f g:Str)(v:V):∀fs:List (Str×V),(gJ f v fs).lookup g=if g=f then some v else fs.lookup g
 | []=>by
   show List.lookup g [(f,v)]=_;by_cases h:g=f
   ·have a:(g==f)=true:=abb.mpr h;simp only[List.lookup,a,aac h]
   ·have a:(g==f)=false:=abr.mpr h;simp only[List.lookup,a,aab h]
 | (k,x)::r=>by
   have b:=jg f g v r;rw[show gJ f v ((k,x)::r)=(if k=f then(k,v)::r else(k,x)::gJ f v r)from rfl];by_cases hk:k=f
   ·rw[aac hk];by_cases h:g=k
    ·have a:(g==k)=true:=abb.mpr h;simp only[List.lookup,a,aac (h.trans hk)]
    ·have a:(g==k)=false:=abr.mpr h;simp only[List.lookup,a,aab (λe:g=f=>h (e.trans hk.symm))]
   ·rw[aab hk];by_cases h:g=k
    ·have a:(g==k)=true:=abb.mpr h;simp only[List.lookup,a,aab (λe:g=f=>hk (h.symm.trans e))]
    ·have a:(g==k)=false:=abr.mpr h;simp only[List.lookup,a];exact b
theorem pX(f:Str)(v:V):∀fs:List (Str×V),f∈(gJ f v fs).map (·.1)/\∀g,g∈fs.map (·.1)->g∈(gJ f v fs).map (·.1)
 |[]=>⟨by simp[gJ],λg h=>by simp at h⟩
 | (k,x)::r=>by
   obtain⟨a,b⟩:=pX f v r;rw[show gJ f v ((k,x)::r)=(if k=f then(k,v)::r else(k,x)::gJ f v r)from rfl];by_cases hk:k=f
   ·rw[aac hk];subst hk;exact⟨by simp,λg h=>by simpa using h⟩
   ·rw[aab hk];refine⟨?_,λg h=>?_⟩
    ·rw[aat];exact aah _ a
    ·rw[aat]at h|-;rcases aai.mp h with e|e
     ·exact aai.mpr (.inl e)
     ·exact aah _ (b g e)
theorem qx(f:Str)(v:V):∀fs:List (Str×V),(gJ f v fs).length<=fs.length+1
 |[]=>by simp[gJ]
 | (k,x)::r=>by
   have a:=qx f v r;rw[show gJ f v ((k,x)::r)=(if k=f then(k,v)::r else(k,x)::gJ f v r)from rfl];by_cases hk:k=f
   ·rw[aac hk,aav,aav];omega
   ·rw[aab hk,aav,aav];omega
theorem o7.some_of(r:o7 (some v) o):∃u,o=some u/\RelV v u:=by
 cases o with
 |none=>exact(show False from r).elim
 |some u=>exact⟨u,rfl,r⟩
theorem o7.none_of(r:o7 none o):o=none:=by
 cases o with
 |none=>rfl
 |some u=>exact(show False from r).elim
theorem EY(r:RelV v u):PySem.W.handedIn u=true:=by
 cases v with
 |non=>cases(show u=Value.none from r);rfl
 |bl b=>cases(show u=Value.bool b from r);rfl
 |int i=>obtain⟨t,e⟩:=(show∃t,u=Value.int i t from r);cases e;rfl
 |str x=>obtain⟨t,e⟩:=(show∃t,u=Value.str x t from r);cases e;rfl
 |byt b=>obtain⟨t,e⟩:=(show∃t,u=Value.bytes b t from r);cases e;rfl
 |flt b=>obtain⟨t,e⟩:=(show∃t,u=Value.float b t from r);cases e;rfl
 |ref a=>cases(show u=Value.ref a from r);rfl
 |ty n=>cases(show u=Value.type n from r);rfl
def qQ(c:oG P w H h)(e:H a=some (.ins C i fs)):∃b,zK h a i C b/\(∀f,o7 (fs.lookup f) (b f))/\PySem.Within b (fs.map (·.1))/\fs.length<=1000/\H i=some (.own a):=by obtain⟨d,z,ne,g,b,n,r,q⟩:=(show iw P w H h a (.ins C i fs)from c a _ e);exact⟨b,⟨g,n,ne⟩,r,q,z,d⟩
structure vh(K:Zs)(C:Zl):Prop where
 pg:PySem.W.plainGet K C Str.empty=true
 hd:PySem.W.hasDictIn K C=true
 po:PySem.W.plainOver K C=true
 sa:PySem.W.findIn K (.ref C) "__setattr__"=some (some (.builtin "object.__setattr__"))
def vh.get{K:Zs}{C:Zl}(c:vh K C)(f:Str):PySem.W.plainGet K C f=true:=c.pg
def g8(K:Zs)(C:Zl)(f:Str):Prop:=PySem.W.findIn K (.ref C) f=some none
def g8.taker{K:Zs}{C:Zl}{f:Str}(n:g8 K C f):PySem.W.takerIn K C f=some none:=by unfold PySem.W.takerIn;rw[show PySem.W.findIn K (.ref C) f=some none from n];rfl
structure Meth(K:Zs)(C:Zl)(m:Str)(f:Zl):Prop where
 at_:PySem.W.findIn K (.ref C) m=some (some (.ref f))
 fn:PySem.W.isFn K (.ref f)=true
 kp:PySem.W.keepIn K (.ref f)=true
section
variable{X:Cx}{eH:YN}{σ:St}{H:Hp}{s:Zp}{a C dx:Zl}{fs:List (Str×V)}{f:Str}{v:V}{A:ZO}{E:ZY}
def sS(I:Inv X eH σ H s)(e:H a=some (.ins C dx fs))(c:vh X.K C)(n:g8 X.K C f)(l:fs.lookup f=some v)
 (h:∀u d,Inv X eH σ H d->RelV v u->Q u d):wpAny (model X.prog X.w) A (getAttr (.ref a) f b) Q E s:=by
 obtain⟨i,O,r,_,_,_⟩:=qQ I.hok e;obtain⟨u,j,g⟩:=o7.some_of (v:=v) (o:=i f) (by rw[<-l];exact r f);exact o6 I.kIn O (c.get f) c.hd n j (EY g) (h u _ (I.tok _) g)
def mK(I:Inv X eH σ H s)(e:H a=some (.ins C dx fs))(c:vh X.K C)(k:Meth X.K C m g)(l:fs.lookup m=none)
 (h:Q (.ref g,[.ref a]) s):wpAny (model X.prog X.w) A (getMethod (.ref a) m i) Q E s:=by
 obtain⟨d,O,r,_,_,_⟩:=qQ I.hok e;have b:d m=none:=o7.none_of (by rw[<-l];exact r m);exact Fx I.kIn O (c.get m) k.at_ k.fn b h
def tK(I:Inv X eH σ H s)(e:H a=some (.ins C dx fs))(c:vh X.K C)(n:g8 X.K C f)(L:fs.length<1000)(J:RelV y u)
 (h:∀i,Inv X eH σ (upd H a (.ins C dx (gJ f y fs))) i->Q () i):wpAny (model X.prog X.w) A (setAttr (.ref a) f u) Q E s:=by
 obtain⟨j,O,r,l,_,m⟩:=qQ I.hok e;have F:(fs.map (·.1)).length<=sizeLine:=by rw[aad,sizeLine_eq];omega
 refine Lr I.kIn O c.sa c.po n.taker c.hd l F λp d w=>h _ ?_;have hd:∃o,p.get? dx=some o:=let⟨o,_,_,G,_⟩:=d.ns;⟨o,G⟩
 refine I.write (x:=a) (e:=dx) (by rw[e];exact aaP) (.inr m) (λb q B z=>(w.2 b B).trans z) hd ?_;refine⟨by rw[c7 O.ne];exact m,?_,O.ne,d.obj,_,d.ns,λg=>?_,λg D=>?_⟩
 ·have:=qx f y fs;omega
 ·show o7 ((gJ f y fs).lookup g) (if g=f then some u else j g);rw[jg];by_cases q:g=f
  ·rw[aac q,aac q];exact J
  ·rw[aab q,aab q];exact r g
 ·by_cases q:g=f
  ·rw[q];exact(pX f y fs).1
  ·refine(pX f y fs).2 g (l g λz=>D ?_);show(if g=f then some u else j g)=none;rw[aab q];exact z
def Inv.made(I:Inv X eH σ H s):Inv X eH σ (upd (upd H s.heap.objs.size (.own (s.heap.objs.size+1))) (s.heap.objs.size+1) (.ins C s.heap.objs.size []))
 {s with heap:=(s.heap.push PySem.W.emptyDict).push (PySem.W.instObj C s.heap.objs.size)}:=by
 have c:(s.heap.push PySem.W.emptyDict).get? s.heap.objs.size=some PySem.W.emptyDict:=aaC s.heap rfl;have h:((s.heap.push PySem.W.emptyDict).push (PySem.W.instObj C s.heap.objs.size)).get? (s.heap.objs.size+1)=some (PySem.W.instObj C s.heap.objs.size):=by
  have:=aaC (s.heap.push PySem.W.emptyDict) (o:=PySem.W.instObj C s.heap.objs.size) rfl
  rwa [aa5]at this
 have i:(s.heap.push PySem.W.emptyDict).Ns s.heap.objs.size (λ_=>none):=⟨PySem.W.emptyDict,#[],_,c,rfl,(λe d=>absurd d (by simp)),λ_=>rfl⟩;have j:=I.laid (a:=s.heap.objs.size) (o:=.own (s.heap.objs.size+1)) (h':=s.heap.push PySem.W.emptyDict) (t':=s.toks) (λb u q=>aan _ q) (aaf _) ⟨_,c⟩;refine j.laid (a:=s.heap.objs.size+1) (o:=.ins C s.heap.objs.size []) (t':=s.toks) (λb u q=>aan _ q) (Nat.le_of_eq (aa5 _ _)) ?_;have ne:s.heap.objs.size≠s.heap.objs.size+1:=aay (ace _);refine ⟨by rw [c7 ne,a_],aaJ _,ne,h,λ_=>none,(Heap.Ns1.of_empty i).at λo q=>aan _ q,λ_=>aaP,λy g=>absurd rfl g⟩
def Ko(g:attributeBase e f env (eval e env)=eval e env)
 (h:wpAny (model b w) A (eval e env) (λo c=>wpAny (model b w) A (getAttr o f true) Q E c) E s):wpAny (model b w) A (eval (.Attribute e f d) env) Q E s:=
 Attribute_any_ h (by rw[arm_eval_Attribute,g])
end
noncomputable def K8(K:Zs)(e:TE)(f:Str):TE:=λc H Q=>e c H λx b=>∃a C d fs v,x=.ref a/\b a=some (.ins C d fs)/\vh K C/\g8 K C f/\fs.lookup f=some v/\Q v b
noncomputable def Yl(K:Zs)(g h:TE)(f:Str):TS:=λD b H=>h b H λy e=>g b e λx c=>∃a C d fs,x=.ref a/\c a=some (.ins C d fs)/\vh K C/\g8 K C f/\fs.length<1000/\
 D.nx b (upd c a (.ins C d (gJ f y fs)))
noncomputable def Q4(X:Cx)(op:Operator)(c:V->V->Hp->VK->Prop):Prop:=
 ∀(a:YN)(s:Zp)(b:St)(H:Hp)(x y:V)(u v:ZI)(Q:VK),Inv X a b H s->RelV x u->RelV y v->c x y H Q->wpAny (model X.prog X.w) X.A (inplaceOp op u v) (EP X a b Q) X.xe s
noncomputable def Kz(K:Zs)(j l:TE)(m:V->V->Hp->VK->Prop)(f:Str):TS:=λD d H=>j d H λx e=>∃a C i fs v,x=.ref a/\e a=some (.ins C i fs)/\vh K C/\g8 K C f/\fs.lookup f=some v/\
 l d e λy h=>m v y h λz g=>∃c b,g a=some (.ins C c b)/\b.length<1000/\D.nx d (upd g a (.ins C c (gJ f z b)))
def dq{X:Cx}(y:PE X e F)(z:attributeBase e f X.env (eval e X.env)=eval e X.env):PE X (.Attribute e f o) (K8 X.K F f):=by intro b s w H Q I h;refine Ko z (gH (y b s w H _ I h) λu A⟨x,d,g,i,a,C,B,fs,v,j,m,c,n,l,q⟩=>?_);subst j;obtain rfl:u=Value.ref a:=i;exact sS g m c n l λD E p r=>⟨v,d,p,r,q⟩
def dY{X:Cx}{N:Pos}(B:PE X o Q)(E:PE X e P)(F:swapsWith e (some (.Attribute o f O)) N.line X.env=pure false):PS X (.Assign [.Attribute o f O] e N) (Yl X.K Q P f):=by intro b s d H D I h;refine plainObj_wpAny_Assign_Attribute (gH (E b s d H _ I h) λu g⟨y,i,j,m,q⟩=>gH (B b g d i _ j q) λp G⟨x,J,r,v,a,C,L,fs,w,z,c,n,l,q2⟩=>?_) F;subst w;obtain rfl:p=Value.ref a:=v;exact tK r z c n l m λM A=>⟨d,_,A,q2⟩
def jh{X:Cx}{op:Operator}{j:V->V->Hp->VK->Prop}(Z:PE X o ta)(hv:PE X e tv)(i:Q4 X op j):PS X (.AugAssign (.Attribute o f tpos) op e pos) (Kz X.K ta tv j f):=by intro b s d H D I h;refine wpAny_AugAssign_AttributeAny (gH (Z b s d H _ I h) λm s1⟨x,p,r,w,a,C,dx,fs,v,A,B,c,n,l,q⟩=>?_);subst A;obtain rfl:m=Value.ref a:=w;refine sS r B c n l λu E F G=>gH (hv b E d p _ F q) λJ L⟨y,M,N,O,P⟩=>gH (i b L d M v y u J _ N G O P) λw4 s4⟨z,H3,Q,R,S,T,g,U,W⟩=>?_;exact tK Q g c n U R λs5 Y=>⟨d,_,Y,W⟩
noncomputable def Yj:V->V->Hp->VK->Prop:=λx y H Q=>∃i j,x=.int i/\y=.int j/\Q (.int (i+j)) H
noncomputable def XZ:V->V->Hp->VK->Prop:=λx y H Q=>∃i j,x=.int i/\y=.int j/\Q (.int (i-j)) H
def nP:Q4 X .Add Yj:=by rintro b s g H x y u v Q I c d⟨i,j,rfl,rfl,q⟩;obtain⟨t,rfl⟩:=(show∃t,u=Value.int i t from c);obtain⟨a,rfl⟩:=(show∃a,v=Value.int j a from d);exact PyProof.Rows.iadd_int ⟨.int (i+j),H,I.tok _,⟨_,rfl⟩,q⟩
def Q9:Q4 X .Sub XZ:=by rintro b s g H x y u v Q I c d⟨i,j,rfl,rfl,q⟩;obtain⟨t,rfl⟩:=(show∃t,u=Value.int i t from c);obtain⟨a,rfl⟩:=(show∃a,v=Value.int j a from d);exact PyProof.Rows.isub_int ⟨.int (i-j),H,I.tok _,⟨_,rfl⟩,q⟩
def N7{X:Cx}{v:Sem Bool}{m:Str}{d:Pos}{b:YU}{i:YN}{s:Zp}{p:St}{H:Hp}{Q:ZY}{A:TE}(F:PE X e A)(I:Inv X i p H s)
 (h:A p H λx r=>∃a C y fs g,x=.ref a/\r a=some (.ins C y fs)/\vh X.K C/\Meth X.K C m g/\fs.lookup m=none/\∀n,Inv X i p r n->wpAny (model X.prog X.w) X.A (callWith o (.ref g) [.ref a] (backTo o (starEach b X.env)) (backToKw o (keywordEach [] X.env))) Q X.xe n)
 (G:eval (.Call (.Attribute e m d) b [] o) X.env=(do
  let z<-eval e X.env
  standAt d.atName
  let(f,j)<-holding [z] (getMethod z m v)
  callWith o f j (backTo o (starEach b X.env)) (backToKw o (keywordEach [] X.env)))):
 wpAny (model X.prog X.w) X.A (eval (.Call (.Attribute e m d) b [] o) X.env) Q X.xe s:=by
 refine acf (pl:=v) (gH (F i s p H _ I h) λu n⟨x,r,w,B,a,C,y,fs,g,D,E,c,k,l,q⟩=>?_) G;subst D;obtain rfl:u=Value.ref a:=B;exact mK w E c k l (q n w)
structure eZ(k:Nat)(A:ZO):Prop where
 hd:A.handled=none
 dp:A.depth+3*k+5<recursionLimit
 un:A.units+16*k+200<cLine
 gd:A.guards=some []
def eZ.mono(r:eZ k A)(h:j<=k):eZ j A:=⟨r.hd,by have:=r.dp;omega,by have:=r.un;omega,r.gd⟩
def eZ.deeper(r:eZ (k+1) A)(env:Env):eZ k (A.deeper env):=
 ⟨r.hd,by have:=r.dp;show A.depth+1+3*k+5<_;omega,by have:=r.un;show A.units+3+16*k+200<_;omega,r.gd⟩
def eZ.in1(r:eZ (k+1) A):eZ k A.in1:=
 ⟨r.hd,by have:=r.dp;show A.depth+3*k+5<_;omega,by have:=r.un;show A.units+1+16*k+200<_;omega,r.gd⟩
def Ac{A:ZO}:(A.under (.builtin "type.__call__" ⟨.ref C::a,b⟩)).depth=A.depth+1:=by first|rfl|simp[Around.under,Code.weight,Code.isCreation,Code.isGuard,Code.isCaller,Code.frames,Code.isFrame,guardIds]
def Bc{A:ZO}:(A.under (.builtin "type.__call__" ⟨.ref C::a,b⟩)).units=A.units+1:=by first|rfl|simp[Around.under,Code.cUnits,Code.frames,Code.isFrame]
def eZ.make(r:eZ (k+1) A)(C:Zl)(a:Y3)(b:List (Str×Value)):eZ k (A.under (.builtin "type.__call__" ⟨.ref C::a,b⟩)):=
 ⟨r.hd,by have:=r.dp;rw[Ac];omega,by have:=r.un;rw[Bc];omega,by have:=r.gd;first|exact this|(simpa[Around.under]using this)⟩
def eZ.depth(r:eZ k A):A.depth<recursionLimit:=by have:=r.dp;omega
def eZ.units(r:eZ k A):A.units+64<cLine:=by have:=r.un;omega
def y_:TA:=λ_ H Q=>Q [] H
def yW(e:TE)(tr:TA):TA:=λa H Q=>e a H λx b=>tr a b λc d=>Q (x::c) d
def cZ:PA X [] y_:=λ_ _ _ _ H Q I h=>acD ⟨[],H,I,.nil,h⟩
def aK{X:Cx}(m:PE X e v)(n:PA X r t)(o:starEach (e::r) X.env=(false,eval e X.env)::starEach r X.env:=by rfl):PA X (e::r) (yW v t):=by intro b a s c H Q I h;rw[o];show wpAny _ _ (spliced ((false,eval e X.env)::backTo b (starEach r X.env))) _ _ s;refine acE (gH (m a s c H _ I h) λu d⟨x,f,g,r1,q1⟩=>?_);exact gH (n b a d c f _ g q1) λp q⟨i,j,l,r2,q2⟩=>⟨x::i,j,l,.cons r1 r2,q2⟩
def X5(t:TA):TE:=λc H Q=>t c H λa b=>a.length<=sizeLine/\∀p,b p=none->Q (.ref p) (upd b p (.tup a))
def Xk(t:TA):TE:=λc H Q=>t c H λa b=>a.length<=sizeLine/\∀p,b p=none->Q (.ref p) (upd b p (.lst a))
def gw{x1}(h:PA X o t):PE X (.Tuple o x1 n) (X5 t):=by intro a s l H Q I m;refine wpAny_Tuple_spliced (gH (h n a s l H _ I m) λg c⟨i,d,f,r,z,q⟩=>⟨by rw[<-r.length];exact z,?_⟩);have j:d c.heap.objs.size=none:=f.hok.fresh (aaf _);refine⟨.ref c.heap.objs.size,upd d c.heap.objs.size (.tup i),f.laid (t':=c.toks) (λb u e=>aan _ e) (aaf _) ?_,rfl,q _ j⟩;exact⟨z,g,r,⟨_,aaC _ rfl,rfl,_,rfl⟩⟩
def gC(h:PA X o t):PE X (.List o n) (Xk t):=by intro a s l H Q I m;refine wpAny_List_spliced (gH (h n a s l H _ I m) λg c⟨i,d,f,r,z,q⟩=>⟨by rw[<-r.length];exact z,?_⟩);have j:d c.heap.objs.size=none:=f.hok.fresh (aaf _);refine⟨.ref c.heap.objs.size,upd d c.heap.objs.size (.lst i),f.laid (t':=c.toks) (λb u e=>aan _ e) (aaf _) ?_,rfl,q _ j⟩;exact⟨z,g,0,r,aaC _ rfl⟩
abbrev Sp:=List V->Hp->VK->XK->Prop
abbrev Bp:=List Env->Hp->Shared->XK->Value->Shared->Prop
structure Ba(P:ZE)(w:ZH)(K:Zs)(mg:Y1)(base:ZN)(A:ZO)(outer:List Env)(s:Zp)(H:Hp):Prop where
 frames:A.frames=some outer
 mod:Mod K mg base
 bs:∀b o,base.get? b=some o->s.heap.get? b=some o/\H b=none
 bsz:base.objs.size<=s.heap.objs.size
 funs:s.heap.FunFrames base outer
 frf:∀b∈frs outer,H b=none
 hok:oG P w H s.heap
 bare:AllBare s.gens
noncomputable def CE(a:List Env)(P:ZE)(w:ZH)(H:Hp)(s:Zp)(Q:VK)(u:ZI)(b:Zp):Prop:=
 ∃v c,b.os=s.os/\AllBare b.gens/\Un (frs a) [] H c s.heap b.heap/\oG P w c b.heap/\RelV v u/\Q v c
noncomputable def CR(c:Bp)(a:List Env)(P:ZE)(w:ZH)(H:Hp)(s:Zp)(Q:VK)(E:XK)(r:Result)(b:Zp):Prop:=
 match r with
 |.ok (.ret u)=>CE a P w H s Q u b
 |.ok _=>False
 |.error e=>c a H s E e b
structure dm(P:ZE)(w:ZH)(K:Zs)(mg:Y1)(base:ZN)(CX:Bp)(k:Nat)(f:Zl)(fd:ZB)(ps:Y2)(sp:Sp):Prop where
 len:∀vs H Q E,sp vs H Q E->vs.length=ps.length
 run:∀(A:ZO)(outer:List Env)(s:Zp)(H:Hp)(args:Args)(us:Y3)(vs:List V)(Q:VK)(E:XK),eZ k A->Ba P w K mg base A outer s H->BindsTo s fd args (ps.zip us)->Vals vs us->sp vs H Q E->
  codeAny (model P w) A (.call (.ref f) args) (CR CX outer P w H s Q E) s
def dm.imp{P:ZE}{w:ZH}{K:Zs}{e:Y1}{a:ZN}{g:Bp}{k:Nat}{f:Zl}{i:ZB}{j:Y2}{l d:Sp}(F:dm P w K e a g k f i j l)
 (h:∀vs H Q E,d vs H Q E->l vs H Q E):dm P w K e a g k f i j d:=
 ⟨λvs H Q E q=>F.len vs H Q E (h _ _ _ _ q),λA b s H c m vs Q E n o p r v=>F.run A b s H c m vs Q E n o p r (h _ _ _ _ v)⟩
def Ba.make{P:ZE}{w:ZH}{K:Zs}{c:Y1}{b:ZN}{A:ZO}{a:List Env}{s:Zp}{H:Hp}(e:Ba P w K c b A a s H)(C:Zl)(d:Y3)(f:List (Str×Value)):
 Ba P w K c b (A.under (.builtin "type.__call__" ⟨.ref C::d,f⟩)) a s H:=⟨by first|exact e.frames|(simpa[Around.under,Code.envs,Code.isFrame,pushEnvs]using e.frames),e.mod,e.bs,e.bsz,e.funs,e.frf,e.hok,e.bare⟩
def Inv.env0(I:Inv X a b H s):Ba X.prog X.w X.K X.mg X.base X.A X.stack s H:=
 ⟨I.ok.frames,I.ok.mod,I.bs,aag I.ok.bsz I.sz,I.stack,I.stkFree,I.hok,I.bare⟩
def Inv.after(I:Inv X l n H s)(h:CE X.stack X.prog X.w H s Q u m):EP X l n Q u m:=by obtain⟨v,f,i,a,un,c,r,q⟩:=h;obtain⟨j,g,d,t,e⟩:=m;obtain rfl:e=s.os:=i;exact⟨v,f,I.call (h':=j) (g':=g) (d':=d) (t':=t) (ch:=[]) un c a (λb z=>absurd z (by simp)),r,q⟩
def Fo(d:Sp)(a:List V)(E:XK)(t:TA):TE:=λb H Q=>t b H λvs c=>d (vs++a) c Q E
noncomputable def HW(C:Zl)(m:Str)(g:Sp)(b:List V)(E:XK)(h:TE)(t:TA):TE:=λc H Q=>h c H λx d=>∃a f fs,x=.ref a/\d a=some (.ins C f fs)/\fs.lookup m=none/\
 t c d λvs e=>g (x::(vs++b)) e Q E
noncomputable def O5(C:Zl)(f:Sp)(c:List V)(E:XK)(t:TA):TE:=λd H Q=>t d H λvs b=>∀x a,b x=none->b a=none->a≠x->
 f (.ref x::(vs++c)) (upd (upd b a (.own x)) x (.ins C a [])) (λv e=>v=.non/\Q (.ref x) e) E
noncomputable def Binds(K:Zs)(d:ZB)(b:Y2)(c:Y3):Prop:=
 ∀(s:Zp)(a:Y3),K.In s.heap->(a++c).length=b.length->BindsTo s d ⟨a,[]⟩ (b.zip (a++c))
def Binds.all{K:Zs}{d:ZB}{b:Y2}(h:∀a:List Value,a.length=b.length->bindArgs d ⟨a,[]⟩=pure (b.zip a)):Binds K d b []:=λs a _ c=>by rw[aaQ]at c|-;exact .of_eq (h a c)
def jt(d:Bp)(X:Cx)(E:XK):Prop:=∀(a:YN)(c:St)(H:Hp)(s:Zp)(e:ZI)(b:Zp),Inv X a c H s->d X.stack H s E e b->X.xe e b
section
variable{X:Cx}{CX:Bp}{k:Nat}{f C:Zl}{fd:ZB}{ps:Y2}{sp:Sp}{dvs:List V}{ds:Y3}{E:XK}{x m:Str}{p pos apos:Pos}{e o:ZT}{es:YU}{ta:TE}{t:TA}
theorem wz(F:dm X.prog X.w X.K X.mg X.base CX k f fd ps sp)(j:eZ k X.A)(l:Binds X.K fd ps ds)(hd:Vals dvs ds)(n:jt CX X E)
 (I:Inv X a c H s)(r:Vals vs us)(h:sp (vs++dvs) H Q E):wpAny (model X.prog X.w) X.A (call (.ref f) us) (EP X a c Q) X.xe s:=by
 have r2:Vals (vs++dvs) (us++ds):=r.append hd;have g:(us++ds).length=ps.length:=by rw[<-r2.length];exact F.len _ _ _ _ h
 refine abW (codeAny_mono (F.run X.A X.stack s H ⟨us,[]⟩ (us++ds) (vs++dvs) Q E j I.env0 (l s us I.kIn g) r2 h) λr d b=>?_);cases r with
 |error e=>exact n a c H s e d I b
 | ok i=>
   cases i with
   |ret u=>exact I.after b
   |next=>exact False.elim b
   |brk=>exact False.elim b
   |cont=>exact False.elim b
def pG(F:dm X.prog X.w X.K X.mg X.base CX k f fd ps sp)(i:eZ k X.A)(j:Gl X x)(l:X.mg x=some (.ref f))(hk:PySem.W.keepIn X.K (.ref f)=true)(n:Binds X.K fd ps ds)(hd:Vals dvs ds)(v:jt CX X E)
 (w:PA X (e::es) t)(b:(x==("__debug__":Str))=false:=by decide)(y:starEach (e::es) X.env=(false,eval e X.env)::starEach es X.env:=by rfl)(c:(backTo pos (starEach es X.env)).any (·.1)=false:=by rfl):
 PE X (.Call (.Name x p) (e::es) [] pos) (Fo sp dvs E t):=by
 intro a s g H Q I h;refine abn (pq I j l ?_ b);refine acF (h₀:=X.base) I.ok.mod.kin hk (gH (w pos a s g H _ I h) λz A⟨vs,B,d,r,q⟩=>⟨d.kIn,?_⟩) y c;exact wz F i n hd v d r q
def eO{g:Sem Bool}(M:PE X o ta)(c:vh X.K C)(A:Meth X.K C m f)(F:dm X.prog X.w X.K X.mg X.base CX k f fd ps sp)(N:eZ k X.A)(O:Binds X.K fd ps ds)(hd:Vals dvs ds)(P:jt CX X E)(R:PA X (e::es) t)
 (i:starEach (e::es) X.env=(false,eval e X.env)::starEach es X.env:=by rfl)(j:(backTo pos (starEach es X.env)).any (·.1)=false:=by rfl)
 (S:eval (.Call (.Attribute o m apos) (e::es) [] pos) X.env=(do
  let y<-eval o X.env
  standAt apos.atName
  let(f,b)<-holding [y] (getMethod y m g)
  callWith pos f b (backTo pos (starEach (e::es) X.env)) (backToKw pos (keywordEach [] X.env))):=by rfl):
 PE X (.Call (.Attribute o m apos) (e::es) [] pos) (HW C m sp dvs E ta t):=by
 intro d s z H Q I h;refine acf (pl:=g) (gH (M d s z H _ I h) λu B⟨x,D,n,G,a,T,fs,J,L,l,q⟩=>?_) S;subst J;obtain rfl:u=Value.ref a:=G;refine mK n L c A l ?_;refine acF (first:=[.ref a]) (h₀:=X.base) I.ok.mod.kin A.kp (gH (R pos d B z D _ n q) λv U⟨vs,W,w,r,q2⟩=>⟨w.kIn,?_⟩) i j;exact wz (us:=.ref a::v) (vs:=.ref a::vs) F N O hd P w (.cons rfl r) q2
def gb{i:Sem Bool}(z:PE X o ta)(c:vh X.K C)(n:Meth X.K C m f)(F:dm X.prog X.w X.K X.mg X.base CX k f fd ps sp)(A:eZ k X.A)(B:Binds X.K fd ps ds)(hd:Vals dvs ds)(D:jt CX X E)
 (G:eval (.Call (.Attribute o m apos) [] [] pos) X.env=(do
  let j<-eval o X.env
  standAt apos.atName
  let(f,b)<-holding [j] (getMethod j m i)
  callWith pos f b (backTo pos (starEach [] X.env)) (backToKw pos (keywordEach [] X.env))):=by rfl):
 PE X (.Call (.Attribute o m apos) [] [] pos) (HW C m sp dvs E ta y_):=by
 intro d s y H Q I h;refine acf (pl:=i) (gH (z d s y H _ I h) λu J⟨x,L,g,r,a,M,fs,v,w,l,q⟩=>?_) G;subst v;obtain rfl:u=Value.ref a:=r;refine mK g w c n l ?_;exact PySem.W.callWith_K0 (first:=[.ref a]) g.kIn n.kp (wz (us:=[.ref a]) (vs:=[.ref a]) F A B hd D g (.cons rfl .nil) q)
structure Mk(K:Zs)(C f:Zl):Prop where
 makes:PySem.W.makesIn K C=true
 init:PySem.W.findIn K (.ref C) "__init__"=some (some (.ref f))
 fn:PySem.W.isFn K (.ref f)=true
 kp:PySem.W.keepIn K (.ref C)=true
theorem yM(M:Mk X.K C f)(F:dm X.prog X.w X.K X.mg X.base CX k f fd ps sp)(D:eZ (k+1) X.A)(G:Binds X.K fd ps ds)(hd:Vals dvs ds)
 (J:jt CX X E)(I:Inv X b g H s)(r:Vals vs us)
 (h:∀x c,H x=none->H c=none->c≠x->sp (.ref x::(vs++dvs)) (upd (upd H c (.own x)) x (.ins C c [])) (λv j=>v=.non/\Q (.ref x) j) E):
 wpAny (model X.prog X.w) X.A (call (.ref C) us) (EP X b g Q) X.xe s:=by
 have i:=h (s.heap.objs.size+1) s.heap.objs.size (I.hok.fresh (abo _)) (I.hok.fresh (aaf _)) (aay (ace _));have d:=Inv.made (C:=C) I;have r2:Vals (V.ref (s.heap.objs.size+1)::(vs++dvs)) (Value.ref (s.heap.objs.size+1)::(us++ds)):=.cons rfl (r.append hd);have n:(Value.ref (s.heap.objs.size+1)::us++ds).length=ps.length:=by have e:=r2.length;rw[F.len _ _ _ _ i]at e;exact e.symm
 refine abW (yg (f:=f) I.kIn M.makes M.init (abb.mp M.fn) (codeAny_mono (F.run _ X.stack _ _ ⟨Value.ref (s.heap.objs.size+1)::us,[]⟩ (Value.ref (s.heap.objs.size+1)::(us++ds)) _ _ E (D.make C us []) (d.env0.make C us []) (G _ (Value.ref (s.heap.objs.size+1)::us) d.kIn n) r2 i) λr l a=>?_));cases r with
 |error e=>exact J b g _ _ e l d a
 | ok B=>
   cases B with
   | ret u=>obtain⟨v,q,w,y,z,A⟩:=d.after a;subst z;exact⟨y,⟨V.ref (s.heap.objs.size+1),q,w,rfl,A⟩⟩
   |next=>exact False.elim a
   |brk=>exact False.elim a
   |cont=>exact False.elim a
def lL(M:Mk X.K C f)(F:dm X.prog X.w X.K X.mg X.base CX k f fd ps sp)(i:eZ (k+1) X.A)(j:Gl X x)(l:X.mg x=some (.ref C))(n:Binds X.K fd ps ds)(hd:Vals dvs ds)(v:jt CX X E)
 (w:PA X (e::es) t)(b:(x==("__debug__":Str))=false:=by decide)(y:starEach (e::es) X.env=(false,eval e X.env)::starEach es X.env:=by rfl)(c:(backTo pos (starEach es X.env)).any (·.1)=false:=by rfl):
 PE X (.Call (.Name x p) (e::es) [] pos) (O5 C sp dvs E t):=by
 intro a s g H Q I h;refine abn (pq I j l ?_ b);refine acF (h₀:=X.base) I.ok.mod.kin M.kp (gH (w pos a s g H _ I h) λz A⟨vs,B,d,r,q⟩=>⟨d.kIn,?_⟩) y c;exact yM M F i n hd v d r q
def rD(M:Mk X.K C f)(F:dm X.prog X.w X.K X.mg X.base CX k f fd ps sp)(c:eZ (k+1) X.A)(d:Gl X x)(g:X.mg x=some (.ref C))(i:Binds X.K fd ps ds)(hd:Vals dvs ds)(j:jt CX X E)
 (a:(x==("__debug__":Str))=false:=by decide):PE X (.Call (.Name x p) [] [] pos) (O5 C sp dvs E y_):=by
 intro b s l H Q I h;refine abn (pq I d g ?_ a);exact PySem.W.callWith_K0 I.kIn M.kp (yM (us:=[]) M F c i hd j I .nil h)
end
noncomputable def PK(X:Cx)(d:List Keyword)(t:TA):Prop:=
 ∀(b:Pos)(a:YN)(s:Zp)(c:St)(H:Hp)(Q:List V->Hp->Prop),Inv X a c H s->t c H Q->wpAny (model X.prog X.w) X.A (evalAll ((backToKw b (keywordEach d X.env)).map (·.2))) (AP X a c Q) X.xe s
section
variable{X:Cx}{CX:Bp}{k:Nat}{f C:Zl}{fd:ZB}{ps ks:Y2}{sp:Sp}{E:XK}{x m:Str}{p pos apos kpos:Pos}{e o:ZT}{es:YU}{kws:List Keyword}{te ta:TE}{t tk:TA}{nm:Option Str}
def wI:PK X [] y_:=λ_ _ _ _ H Q I h=>wpAny_evalAll_nil ⟨[],H,I,.nil,h⟩
def jZ(q:PE X e te)(r:PK X kws t):PK X (⟨nm,e,kpos⟩::kws) (yW te t):=by intro b a s c H Q I h;show wpAny _ _ (evalAll ((do let v<-eval e X.env;standAt b;pure v)::(backToKw b (keywordEach kws X.env)).map (·.2))) _ _ s;refine wpAny_evalAll_cons (aaa (gH (q a s c H _ I h) λu d⟨x,g,i,r1,q1⟩=>aaa (abl (aae ?_))));exact gH (r b a d c g _ i q1) λw y⟨j,l,n,r2,q2⟩=>⟨x::j,l,n,.cons r1 r2,q2⟩
structure k_(K:Zs)(fd:ZB)(ps ks:Y2)(g:List Value->List Value->List Value)(gV:List V->List V->List V):Prop where
 to:∀(s:Zp)(us ws:Y3),K.In s.heap->(g us ws).length=ps.length->BindsTo s fd ⟨us,ks.zip ws⟩ (ps.zip (g us ws))
 rel:∀{vs:List V}{us:Y3}{zs:List V}{ws:Y3},Vals vs us->Vals zs ws->Vals (gV vs zs) (g us ws)
theorem KD(F:dm X.prog X.w X.K X.mg X.base CX k f fd ps sp)(v:eZ k X.A)(j:k_ X.K fd ps ks g z)(w:jt CX X E)
 (I:Inv X a d H s)(r:Vals vs us)(y:Vals i b)(h:sp (z vs i) H Q E):wpAny (model X.prog X.w) X.A (call (.ref f) us (ks.zip b)) (EP X a d Q) X.xe s:=by
 have r2:=j.rel r y;have n:(g us b).length=ps.length:=by rw[<-r2.length];exact F.len _ _ _ _ h
 refine abW (codeAny_mono (F.run X.A X.stack s H ⟨us,ks.zip b⟩ (g us b) (z vs i) Q E v I.env0 (j.to s us b I.kIn n) r2 h) λr l c=>?_);cases r with
 |error e=>exact w a d H s e l I c
 | ok q=>
   cases q with
   |ret u=>exact I.after c
   |next=>exact False.elim c
   |brk=>exact False.elim c
   |cont=>exact False.elim c
end
structure du(N P:Y2)(sc:ZU):Prop where
 kind:sc.kind=.function
 co:sc.isCoroutine=false
 gen:sc.isGenerator=false
 nd:N.Nodup
 pre:N.take P.length=P
 par:∀x∈P,sc.names.lookup x=some .local\/sc.names.lookup x=some .cell
 nofree:∀y∈sc.names,y.2≠.free
theorem vg{a:Str->Option NameKind}{x:Str}:∀{binds:List (Str×Value)}{m:Y1},(∀v,(x,v)∉binds)->bindL a binds m x=m x
 |[],_,_=>rfl
 | (n,v)::r,m,h=>by
   unfold bindL;rw[vg λw b=>h w (aah _ b)];split
   ·have:x≠n:=by rintro rfl;exact h v aal
    simp[this]
   ·rfl
theorem uW{a:Str->Option NameKind}{x:Str}:∀{binds:List (Str×Value)}{m:Y1},(∀v,(x,v)∉binds)->bindC a binds m x=m x
 |[],_,_=>rfl
 | (n,v)::r,m,h=>by
   unfold bindC;rw[uW λw b=>h w (aah _ b)];split
   ·rfl
   ·have:x≠n:=by rintro rfl;exact h v aal
    simp[this]
theorem vp{a:Str->Option NameKind}:∀{P:Y2}{vs:Y3}{i:Nat}{m:Y1},P.Nodup->P[i]?=some x->vs[i]?=some v->a x=some .local->
 bindL a (P.zip vs) m x=some v
 |[],_,_,_,_,h,_,_=>by simp at h
 |_::_,[],_,_,_,_,h,_=>by simp at h
 | p::P,w::vs,0,m,nd,h1,h2,hk=>by simp at h1 h2;subst h1;subst h2;show bindL a ((p,w)::P.zip vs) m p=_;unfold bindL;rw[vg λv b=>(aaD.mp nd).1 (abX b).1,aac hk];simp
 | p::P,w::vs,i+1,m,nd,h1,h2,hk=>by show bindL a ((p,w)::P.zip vs) m x=_;unfold bindL;exact vp (i:=i) (aaD.mp nd).2 (by simpa using h1) (by simpa using h2) hk
theorem uV{a:Str->Option NameKind}:∀{P:Y2}{vs:Y3}{i:Nat}{m:Y1},P.Nodup->P[i]?=some x->vs[i]?=some v->a x≠some .local->
 bindC a (P.zip vs) m x=some v
 |[],_,_,_,_,h,_,_=>by simp at h
 |_::_,[],_,_,_,_,h,_=>by simp at h
 | p::P,w::vs,0,m,nd,h1,h2,hk=>by simp at h1 h2;subst h1;subst h2;show bindC a ((p,w)::P.zip vs) m p=_;unfold bindC;rw[uW λv b=>(aaD.mp nd).1 (abX b).1,aab hk];simp
 | p::P,w::vs,i+1,m,nd,h1,h2,hk=>by show bindC a ((p,w)::P.zip vs) m x=_;unfold bindC;exact uV (i:=i) (aaD.mp nd).2 (by simpa using h1) (by simpa using h2) hk
noncomputable def start(N:Y2)(vs:List V):St:=vs.map some++List.replicate (N.length-vs.length) none
noncomputable def jr(CX:Bp)(P:ZE)(w:ZH)(K:Zs)(mg:Y1)(base:ZN)(N:Y2)(qual:Str)(scope:ZU)(f:Zl)(cd:ZI)(A:ZO)(outer:List Env)(s:Zp)(H:Hp)(E:XK):Cx where
 prog:=P
 w:=w
 K:=K
 mg:=mg
 base:=base
 A:=A.deeper (envOfC qual scope s.heap.objs.size f cd)
 N:=N
 s₀:=s
 H₀:=H
 env:=envOfC qual scope s.heap.objs.size f cd
 outer:=outer
 stack:=envOfC qual scope s.heap.objs.size f cd::outer
 ex:=[]
 calm:=true
 fn:=λ_=>true
 pn:=[]
 xe:=λe s'=>wpAny (model P w) (A.deeper (envOfC qual scope s.heap.objs.size f cd)) (leaving (envOfC qual scope s.heap.objs.size f cd) e) (λ_ s''=>CX outer H s E e s'') (λe' s''=>CX outer H s E e' s'') s'
def xR{a:ZU}(h:a.names.lookup x=some .cell):∃c,(cellsFrom n a.names []).lookup x=some c:=by have q:=PySem.W.cellsFrom_some a.names n [] (.inl h);exact Option.isSome_iff_exists.mp q
def Fd{CX:Bp}{P:ZE}{w:ZH}{K:Zs}{mg:Y1}{base:ZN}{N ps:Y2}{qual:Str}{scope:ZU}{f:Zl}{cd:ZI}{A:ZO}{outer:List Env}{s s1:Zp}{H:Hp}{E:XK}{us:Y3}{vs:List V}
 (S:du N ps scope)(hd:A.handled=none)(e0:Ba P w K mg base A outer s H)(hl:vs.length=ps.length)(r:Vals vs us)
 (x:InCallC s s.heap.objs.size (bindL (envOfC qual scope s.heap.objs.size f cd).kindOf (ps.zip us) λ_=>none) (cellsFrom (s.heap.objs.size+1) scope.names []) (bindC (envOfC qual scope s.heap.objs.size f cd).kindOf (ps.zip us) λ_=>none) s1):
 Inv (jr CX P w K mg base N qual scope f cd A outer s H E) [] (start N vs) H s1:=by
 have hpl:ps.length<=N.length:=by have:=aaB List.length S.pre;rw[aaS]at this;omega
 obtain⟨h1,tk,rfl,hk⟩:=x.done;have noA:∀b:Addr,b∉(jr CX P w K mg base N qual scope f cd A outer s H E).ex:=λb z=>absurd (show b∈([]:YI)from z) (by simp);refine⟨⟨e0.mod,S.kind,rfl,rfl,aaf _,λy z c h1 h2=>?_,λy hy=>?_,λy c _ h=>?_,λ_=>hd,Around.frames_deeper e0.frames,.inr ⟨rfl,rfl⟩,λb z=>absurd z (noA b),e0.bs,e0.bsz,λb _ _=>noA b,λb z=>absurd z (noA b),e0.funs,e0.frf⟩,
  rfl,e0.bare,Un.kept hk,⟨_,x.toInCall.ns,λi y v h1 h2 h3=>?_⟩,λy c h=>⟨_,x.cell y c h⟩,e0.hok.fresh (aaf _),λy c h=>?_,λp hp=>absurd (show p∈([]:YN)from hp) (by simp),e0.hok.kept hk,?_⟩
 ·exact name_of_addr x.apart (abv h1) (abv h2)
 ·have hy:scope.names.lookup y=some .cell\/scope.names.lookup y=some .free:=hy;rcases hy with hy|hy
  ·exact xR hy
  ·exact absurd rfl (S.nofree _ (abv hy))
 ·exact aaX (x.above y c (abv h))
 ·have hi:i<vs.length:=by
   unfold start at h2;by_cases hi:i<vs.length
   ·exact hi
   ·rw[abY (by simpa using hi)]at h2;rw[List.getElem?_replicate]at h2;split at h2<;>cases h2
  have ha:vs[i]?=some v:=by
   unfold start at h2;rw[ac3 (by simpa using hi),aao]at h2;cases e:vs[i]? with
   |none=>rw[e]at h2;cases h2
   |some a=>rw[e]at h2;cases h2;rfl
  obtain⟨u,hu,rv⟩:=r.get ha;have hp:ps[i]?=some y:=by rw[<-S.pre,acG (by omega)];exact h1
  have ndP:ps.Nodup:=by rw[<-S.pre];exact S.nd.sublist (acH _ _)
  refine⟨u,rv,?_⟩;rcases S.par y (aaj hp)with k|k
  ·exact .inl ⟨k,vp ndP hp hu k⟩
  ·obtain⟨c,e⟩:=xR (n:=s.heap.objs.size+1) k;refine .inr ⟨.inl k,c,e,?_⟩;have q:=x.cell y c e;rw[uV ndP hp hu (by show scope.names.lookup y≠_;rw[k];decide)]at q;exact q
 ·exact e0.hok.fresh (aaX (x.above y c (abv h)))
 ·unfold start;show _=N.length;rw[aas,aad,acg];omega
theorem Ng{CX:Bp}{P:ZE}{w:ZH}{K:Zs}{mg:Y1}{base:ZN}{k:Nat}{f:Zl}{name ab:Str}{ac:Arguments}{ad:List Stmt}{aa:ZU}{dV kV ag pm ae ct oc:ZI}{an od:YE}
 {ai:YV}{N ps:Y2}{sp:Sp}(lk:K.lookup f=some ⟨oc,od,.func (PySem.W.fnOf name ab ac ad aa dV kV ag pm an ae ct),ai⟩)(aj:PySem.W.codeIn K ae ab=true)(S:du N ps aa)
 (ah:∀vs H Q E,sp vs H Q E->vs.length=ps.length)
 (af:∀(A:ZO)(outer:List Env)(s:Zp)(H:Hp)(vs:List V)(Q:VK)(E:XK),eZ k (A.deeper (envOfC ab aa s.heap.objs.size f ae))->sp vs H Q E->∃t,Dq (jr CX P w K mg base N ab aa f ae A outer s H E) ad t/\t {nx:=λ_ H'=>Q .non H',rt:=Q} (start N vs) H):
 dm P w K mg base CX (k+1) f (PySem.W.fnOf name ab ac ad aa dV kV ag pm an ae ct) ps sp:=by
 refine⟨ah,λA outer s H args us vs Q E hr e0 hb r hsp=>?_⟩;have hl:=ah _ _ _ _ hsp;have KX:K.In s.heap:=e0.mod.kin.keeps λb o e=>(e0.bs b o e).1;have lim:s.heap.NoLimit:=e0.mod.nolimit.keeps λb o e=>(e0.bs b o e).1;have hkind:∀y∈ps.zip us,aa.names.lookup y.1=some .local\/(aa.names.lookup y.1=some .cell/\((cellsFrom (s.heap.objs.size+1) aa.names []).lookup y.1).isSome=true):=λ⟨n,v⟩hy=>by
  rcases S.par n (abX hy).1 with q|q
  ·exact .inl q
  ·exact .inr ⟨q,PySem.W.cellsFrom_some _ _ _ (.inl q)⟩
 refine codeAny_call_function hr.depth (KX _ _ lk) rfl S.co S.gen rfl (PySem.W.codeRec_of KX aj) (hb _ _ _ _ ?_);refine wpAny_newFunctionEnv_cells S.kind hkind λenv he s1 x=>?_;subst he;refine⟨lim.keeps x.toInCall.keep,codeAny_func ?_⟩;obtain⟨t,ht,hq⟩:=af A outer s H vs Q E (hr.deeper _) hsp;have I:Inv (jr CX P w K mg base N ab aa f ae A outer s H E) [] (start N vs) H s1:=Fd S hr.hd e0 hl r x;refine aaG (ht [] s1 (start N vs) H _ I hq) (λfl s' hs=>?_) λe s' hs=>hs;have fin:∀{σ':St}{H':Hp}{v:V}{u:ZI},Inv (jr CX P w K mg base N ab aa f ae A outer s H E) [] σ' H' s'->RelV v u->Q v H'->CE outer P w H s Q u s':=
  λ{σ' H' v u}J rv q=>⟨v,H',J.os,J.bare,J.base,J.hok,rv,q⟩;cases fl with
 | ret u=>obtain⟨v,σ',H',J,rv,q⟩:=hs;exact fin J rv q
 | next=>obtain⟨σ',H',J,q⟩:=hs;exact fin (v:=V.non) (u:=Value.none) J rfl q
 | brk=>obtain⟨_,_,_,q⟩:=hs;exact False.elim q
 | cont=>obtain⟨_,_,_,q⟩:=hs;exact False.elim q
section
variable{X:Cx}{x:Str}{p pos:Pos}{e:ZT}{es:YU}{t:TA}{id T:String}{r:List V->Hp->VK->Prop}
def Zn(r:List V->Hp->VK->Prop)(t:TA):TE:=λa H Q=>t a H λvs b=>r vs b Q
def dD(l:jX X (.builtin id) r)(m:Gl X x)(n:X.mg x=none)(o:bootBuiltins x=some (.builtin id))(q:PA X (e::es) t)(v:x≠"__name__":=by decide)(b:(x==("__debug__":Str))=false:=by decide)
 (w:starEach (e::es) X.env=(false,eval e X.env)::starEach es X.env:=by rfl)(c:(backTo pos (starEach es X.env)).any (·.1)=false:=by rfl):PE X (.Call (.Name x p) (e::es) [] pos) (Zn r t):=by
 intro a s d H Q I h;refine abn (oR I m n o ?_ v b);exact PyProof.Rows.callWith_builtin1 (gH (q pos a s d H _ I h) λf g⟨vs,i,j,r1,q1⟩=>l a g d i vs f Q j r1 q1) w c
def jJ(l:jX X (.type T) r)(m:Gl X x)(n:X.mg x=none)(o:bootBuiltins x=some (.type T))(q:PA X (e::es) t)(v:x≠"__name__":=by decide)(b:(x==("__debug__":Str))=false:=by decide)
 (w:starEach (e::es) X.env=(false,eval e X.env)::starEach es X.env:=by rfl)(c:(backTo pos (starEach es X.env)).any (·.1)=false:=by rfl):PE X (.Call (.Name x p) (e::es) [] pos) (Zn r t):=by
 intro a s d H Q I h;refine abn (oR I m n o ?_ v b);exact abU (gH (q pos a s d H _ I h) λf g⟨vs,i,j,r1,q1⟩=>l a g d i vs f Q j r1 q1) w c
end
end L2
namespace HT
open PySem PyProof.Rows
section
open PySem.SeqAt
open PySem.AutoSeq1 (wpAny_loadPart')
open PySem.MeetsSeq PySem.MeetsSeq2 PySem.MeetsSeq3
end
section
variable{prog:ZE}{w:ZH}{A:ZO}{E:ZY}{s:Zp}
noncomputable def jB(n d:Nat):Option Int->Nat
 |none=>d
 |some v=>if v<0 then(v+(n:Int)).toNat else min v.toNat n
def Ig(n d:Nat):jB n d none=d:=rfl
def JL(n d k:Nat):jB n d (some (k:Int))=min k n:=by show(if(k:Int)<0 then((k:Int)+(n:Int)).toNat else min (k:Int).toNat n)=min k n;rw[aab (by omega),acI]
theorem Pn(n d:Nat)(hd:d<=n)(o:Option Int):jB n d o<=n:=by
 cases o with
 |none=>exact hd
 | some v=>
   show(if v<0 then(v+(n:Int)).toNat else min v.toNat n)<=n;by_cases a:v<0
   ·rw[aac a];omega
   ·rw[aab a];exact Nat.min_le_right _ _
def Bs(v:Int)(n d:Nat):(if v<0 then max (v+(n:Int)) 0 else min v (n:Int))=((jB n d (some v):Nat):Int):=by
 show(if v<0 then max (v+(n:Int)) 0 else min v (n:Int))=(((if v<0 then(v+(n:Int)).toNat else min v.toNat n):Nat):Int);by_cases a:v<0
 ·simp only[aac a];omega
 ·simp only[aab a];omega
def zQ(a b:Option Int)(n:Nat):Builtin.Slice.sliceAdjust a b 1 (n:Int)=(((jB n 0 a:Nat):Int),((jB n n b:Nat):Int)):=by
 have c:¬((1:Int)<0):=by omega
 unfold Builtin.Slice.sliceAdjust;simp only[c,if_false];refine Prod.ext ?_ ?_
 ·cases a with
  |none=>rfl
  |some v=>exact Bs v n 0
 ·cases b with
  |none=>rfl
  |some v=>exact Bs v n n
def zJ(i j:Nat):Builtin.Slice.slicePlaces (i:Int) (j:Int) 1=j-i:=by
 unfold Builtin.Slice.slicePlaces;have a:(1:Int) >0:=by omega
 simp only[a,if_true,Int.ediv_one];split<;>omega
theorem sU(p:IsPart v o)(h:Q o s):wpAny (model prog w) A (Builtin.Slice.slicePartIndex v) Q E s:=by
 cases p with
 |none=>exact slicePart_none h
 |int i t=>exact slicePart_int h
def my{f:Zl}{vl e:ZI}{a d:Option Int}{n:Nat}{Q:Int×Int×Nat->Shared->Prop}(i:s.heap.IsSliceOf f vl e .none)(j:IsPart vl a)(l:IsPart e d)
 (h:Q (((jB n 0 a:Nat):Int),1,jB n n d-jB n 0 a) s):wpAny (model prog w) A (Builtin.Slice.sliceApplied (.ref f) (pure (n:Int))) Q E s:=by
 obtain⟨m,b,g,c⟩:=id i;unfold Builtin.Slice.sliceApplied Builtin.Slice.sliceFields;refine aaa (aaa (aaN b c (x:=vl) rfl (aaa (aaN b c (x:=e) rfl (aaa (aaN b c (x:=.none) rfl (aae ?_)))))));refine aaa (slicePart_none ?_);show wpAny _ _ (if((1:Int)==0)=true then _ else _) _ _ s;rw[aab (by decide)];refine aaa (sU j (aaa (sU l (aaa (aae ?_)))));show wpAny _ _ (match Builtin.Slice.sliceAdjust a d 1 (n:Int)with|(a,d)=>pure (a,(1:Int),Builtin.Slice.slicePlaces a d 1)) _ _ s;rw[zQ a d n];show wpAny _ _ (pure (((jB n 0 a:Nat):Int),(1:Int),Builtin.Slice.slicePlaces ((jB n 0 a:Nat):Int) ((jB n n d:Nat):Int) 1)) _ _ s;rw[zJ];exact aae h
def I_(a:YA)(i k:Nat):((List.range k).filterMap λ(m:Nat)=>a[((i:Int)+(m:Int)*1).toNat]?).toArray=((a.toList.drop i).take k).toArray:=by
 have e:(λ(m:Nat)=>a[((i:Int)+(m:Int)*1).toNat]?)=λm=>a[i+m]?:=by
  funext m;have:((i:Int)+(m:Int)*1).toNat=i+m:=by omega
  rw[this]
 rw[e];have:=pick_run a i k;rw[List.filterMap_map]at this;have b:((λx=>a[x]?)∘λx=>i+x)=λm=>a[i+m]?:=rfl;rw[b]at this;rw[this]
def p6{t l:Zl}{a:YA}{vl n:ZI}{c d:Option Int}{Q:ZY}(e:IsTup s.heap t a)(o:s.heap.IsSliceOf l vl n .none)(v:IsPart vl c)(x:IsPart n d)
 (y:¬(jB a.size 0 c=0/\jB a.size a.size d=a.size))
 (h:Q (.ref s.heap.objs.size) {s with heap:=s.heap.push {cls:=.type "tuple",data:=.seq ((a.toList.drop (jB a.size 0 c)).take (jB a.size a.size d-jB a.size 0 c)).toArray}})
 (z:a.size<=sizeLine):wpAny (model prog w) A (getItem (.ref t) (.ref l)) Q E s:=by
 have b:sizeOk (.seq ((a.toList.drop (jB a.size 0 c)).take (jB a.size a.size d-jB a.size 0 c)).toArray):=by show((a.toList.drop (jB a.size 0 c)).take (jB a.size a.size d-jB a.size 0 c)).toArray.size<=sizeLine;rw[aau,aaS,List.length_drop,acz];omega
 have B:jB a.size a.size d<=a.size:=Pn _ _ (aaf _) d;obtain⟨p,i,j,r⟩:=id o;have f:s.TypeIs (.ref l) "slice":=⟨p,i,j⟩;unfold getItem
 try with_reducible refine abg ?_
 first|refine aaa (aae ?_)|skip
 refine aaa (acJ e.typeIs (by decide) ?_);refine aaa (wpAny_callSpecial?_slot (name:=Str.ofString "__getitem__") e.typeIs abE (abc abE e.typeIs entry_tuple_getitem ?_ (args_tuple_getitem _ _)));show wpAny _ _ (Builtin.Tuple.tupleItemsOf (.ref t)>>=_) _ _ s;refine aaa (tupleItemsOf_ e ?_);refine aaa (wpAny_typeOf f ?_);rw[aac (by decide)];refine aaa (my o v x ?_);have g:¬((((jB a.size 0 c:Nat):Int)==0&&(1:Int)==1&&(jB a.size a.size d-jB a.size 0 c)==a.size)=true):=by intro q;rw[aaK,aaK]at q;have q1:((jB a.size 0 c:Nat):Int)=0:=eq_of_beq q.1.1;have q2:jB a.size a.size d-jB a.size 0 c=a.size:=eq_of_beq q.2;exact y ⟨by omega,by omega⟩
 show wpAny _ _ (if(((jB a.size 0 c:Nat):Int)==0&&(1:Int)==1&&(jB a.size a.size d-jB a.size 0 c)==a.size)=true then _ else _) _ _ s;rw[aab g,I_]
 first
  |exact aaa (m:=Builtin.Tuple.tupleExact _) (aa2 (aae ⟨_,rfl,aae h⟩) b)
  |exact aaa (m:=Builtin.Tuple.tupleExact _) (aa2 (aaa (aae (aae ⟨_,rfl,aae h⟩))) b)
  |exact aaa (aaa (m:=Builtin.Tuple.tupleExact _) (aa2 (aae (aae ⟨_,rfl,aae h⟩)) b))
  |exact aaa (aaa (m:=Builtin.Tuple.tupleExact _) (aa2 (aae ⟨_,rfl,aae h⟩) b))
end
end HT
namespace L2
open PySem PySem.Spec PyProof.Rows
abbrev TO:=St->Hp->(Option Int->Hp->Prop)->Prop
noncomputable def PO(X:Cx)(e:Option Expr)(t:TO):Prop:=
 ∀(a:YN)(s:Zp)(b:St)(H:Hp)(Q:Option Int->Hp->Prop),Inv X a b H s->t b H Q->
   wpAny (model X.prog X.w) X.A (evalPart e X.env) (λu d=>∃o c,Inv X a b c d/\IsPart u o/\Q o c) X.xe s
noncomputable def Ck:TO:=λ_ H Q=>Q none H
noncomputable def Uc(t:TE):TO:=λa H Q=>t a H λx b=>∃i,x=.int i/\Q (some i) b
section
variable{X:Cx}{e:ZT}{te:TE}{lo hi:Option Expr}{tl th:TO}{pos p2:Pos}
def mR:PO X none Ck:=by intro a s b H Q I h;rw[evalPart_none];exact aae ⟨none,H,I,.none,h⟩
def mU(h:PE X e te):PO X (some e) (Uc te):=by intro a s d H Q I f;rw[evalPart_some];refine gH (h a s d H _ I f) λu g⟨x,b,c,r1,q1⟩=>?_;obtain⟨i,rfl,q⟩:=q1;obtain⟨t,rfl⟩:=r1;exact⟨some i,b,c,.int i t,q⟩
noncomputable def Wr(X:Cx)(r:V->Option Int->Option Int->Hp->VK->Prop):Prop:=
 ∀(a:YN)(s:Zp)(b:St)(H:Hp)(x:V)(v vl c:ZI)(d f:Option Int)(g:Zl)(Q:VK),Inv X a b H s->RelV x v->s.heap.IsSliceOf g vl c .none->IsPart vl d->IsPart c f->r x d f H Q->
   ∃T h,typeLookup (.type T) "__getitem__"=pure (some (.builtin h))/\s.TypeIs v T/\wpAny (model X.prog X.w) X.A (getItem v (.ref g)) (EP X a b Q) X.xe s
noncomputable def Zy(r:V->Option Int->Option Int->Hp->VK->Prop)(f:TE)(g h:TO):TE:=λa H Q=>f a H λx b=>g a b λl c=>h a c λu d=>r x l u d Q
def lA{r:V->Option Int->Option Int->Hp->VK->Prop}(F:Wr X r)(G:PE X e te)(J:PO X lo tl)(L:PO X hi th):PE X (.Subscript e (.Slice lo hi none p2) pos) (Zy r te tl th):=by intro a s d H Q I h;refine Subscript_ (gH (G a s d H _ I h) λv i⟨x,j,m,r1,q1⟩=>?_);refine wpAny_Slice (gH (J a i d j _ m q1) λvl n⟨l,o,p,w,q2⟩=>gH (L a n d o _ p q2) λf c⟨u,g,y,z,A⟩=>?_);rw[evalPart_none];refine aae ?_;have B:Inv X a d g {c with heap:=c.heap.push {cls:=.type "slice",data:=.fields #[vl,f,.none]}}:=y.kept (t':=c.toks) λb M q=>aan _ q;obtain⟨T,N,C,D,E⟩:=F a {c with heap:=c.heap.push {cls:=.type "slice",data:=.fields #[vl,f,.none]}} d g x v vl f l u c.heap.objs.size Q B r1 (Heap.IsSliceOf.new ..) w z A;show wpAny (model X.prog X.w) X.A (subscriptTail e (.Slice lo hi none p2) v (.ref c.heap.objs.size)) (EP X a d Q) X.xe {c with heap:=c.heap.push {cls:=.type "slice",data:=.fields #[vl,f,.none]}};exact tail_any (ops:=[.ref c.heap.objs.size,v]) D C E (by with_unfolding_all rfl)
noncomputable def nT(a:List V)(b c:Option Int):List V:=(a.drop (HT.jB a.length 0 b)).take (HT.jB a.length a.length c-HT.jB a.length 0 b)
def qz(a:List V)(b c:Option Int):(nT a b c).length<=a.length:=by unfold nT;rw[aaS,List.length_drop];omega
noncomputable def YZ(K:Zs):V->Option Int->Option Int->Hp->VK->Prop:=λx c d H Q=>∃a b,x=.ref a/\gf K H a b/\
 ¬(HT.jB b.length 0 c=0/\HT.jB b.length b.length d=b.length)/\∀p,H p=none->Q (.ref p) (upd H p (.tup (nT b c d)))
def QQ:Wr X (YZ X.K):=by
 intro m s C H x v vl D f i E Q I w y z A h;obtain⟨a,d,rfl,n,p,q⟩:=h;cases w;obtain⟨g,r,j,l⟩:=I.tuple n;have c:g.toArray.size=d.length:=by rw[aau];exact r.length.symm
 refine⟨"tuple",_,abE.lookup,j.typeIs,?_⟩;refine HT.p6 j y z A (by rw[c];exact p) ?_ (by rw[c];exact l);rw[c];refine⟨.ref s.heap.objs.size,_,I.laid (t':=s.toks) (o:=.tup (nT d f i)) (λb B q=>aan _ q) (aaf _) ?_,rfl,q _ (I.hok.fresh (aaf _))⟩;exact⟨aag (qz d f i) l,_,(r.drop (HT.jB d.length 0 f)).take (HT.jB d.length d.length i-HT.jB d.length 0 f),IsTup.new _ _⟩
end
noncomputable def KH(n:Nat)(i:Int):Option Nat:=if 0<=i then(if i<n then some i.toNat else none)else if-(n:Int)<=i then some (i+n).toNat else none
noncomputable def qF{a:Type}(b:List a)(i:Int):Option a:=(KH b.length i).bind λj=>b[j]?
def Ms(h:KH n i=some j):seqIndex? i n=some j/\j<n/\-(n:Int)<=i/\i<n:=by
 unfold KH at h;by_cases b:0<=i
 ·rw[aac b]at h;by_cases a:i<n
  ·rw[aac a]at h;have e:i.toNat=j:=aaW h;exact⟨by rw[seqIndex_of b a,e],by omega,by omega,a⟩
  ·rw[aab a]at h;cases h
 ·rw[aab b]at h;by_cases a:-(n:Int)<=i
  ·rw[aac a]at h;have e:(i+n).toNat=j:=aaW h;exact⟨by rw[seqIndex_neg (by omega) a,e],by omega,a,by omega⟩
  ·rw[aab a]at h;cases h
theorem vW{b:Type}{a:List b}{i:Int}{v:b}(h:qF a i=some v):∃j,seqIndex? i a.length=some j/\a[j]?=some v/\j<a.length/\-(a.length:Int)<=i/\i<a.length:=by
 unfold qF at h;cases e:KH a.length i with
 |none=>rw[e]at h;cases h
 | some j=>rw[e]at h;obtain⟨c,d,f,g⟩:=Ms e;exact⟨j,c,h,d,f,g⟩
def dz{b:Type}{a:List b}{j:Nat}{v:b}(h:a[j]?=some v):qF a (j:Int)=some v:=by
 have c:j<a.length:=(aar.mp h).1;have e:KH a.length (j:Int)=some j:=by unfold KH;rw[aac (by omega),aac (by omega)];simp
 unfold qF;rw[e];exact h
def LQ(b:ZT):Prop:=∀o i,subscripted b false o i=operate [o,i] (getItem o i)
noncomputable def Jq(X:Cx)(r:R2):Prop:=
 ∀(c a:ZT)(b:YN)(s:Zp)(d:St)(H:Hp)(x y:V)(v u:ZI)(Q:VK),Inv X b d H s->RelV x v->RelV y u->r x y H Q->
   subscripted a false v u=operate [v,u] (getItem v u)->wpAny (model X.prog X.w) X.A (subscriptTail c a v u) (EP X b d Q) X.xe s
noncomputable def Kf(X:Cx)(e:String)(r:V->List V->Hp->VK->Prop):Prop:=
 ∀(a:YN)(s:Zp)(b:St)(H:Hp)(x:V)(c:List V)(v:ZI)(d:Y3)(Q:VK),Inv X a b H s->RelV x v->Vals c d->r x c H Q->
   wpAny (model X.prog X.w) X.A (call (.builtin e) (v::d)) (EP X a b Q) X.xe s
def Jq.or(h:Jq X r)(m:Jq X l):Jq X (λx y H Q=>r x y H Q\/l x y H Q):=by
 intro c d e s f H x y v u Q I g i q j;rcases q with q|q
 ·exact h c d e s f H x y v u Q I g i q j
 ·exact m c d e s f H x y v u Q I g i q j
def dZ(l:Jq X r)(m:PE X a w)(n:PE X b z)(o:LQ b:=by intro _ _;rfl):PE X (.Subscript a b p) (RG r w z):=by intro c s j H Q I h;exact Subscript_ (Py m n I h λv u d x y e f g i q=>l a b c d j e x y v u Q f g i q (o _ _))
noncomputable def Up(K:Zs):R2:=λx y H Q=>∃p c i v,x=.ref p/\y=.int i/\fj K H p c/\qF c i=some v/\Q v H
noncomputable def qg(K:Zs):R2:=λx y H Q=>∃p c i v,x=.ref p/\y=.int i/\gf K H p c/\qF c i=some v/\Q v H
noncomputable def Qz:R2:=λx y H Q=>∃z i c,x=.str z/\y=.int i/\z.length<=sizeLine/\qF z.cps.toList i=some c/\Q (.str ⟨#[c]⟩) H
def g_{X:Cx}:Jq X (Up X.K):=by
 intro n o c s B H x y v u Q I O P h C;obtain⟨p,S,i,z,rfl,rfl,G,J,q⟩:=h;cases O;obtain⟨t,rfl⟩:=P;obtain⟨g,r,l,T⟩:=I.list G;obtain⟨j,e,L,U,M,N⟩:=vW J;obtain⟨w,A,m⟩:=r.get L;have F:=r.length;have R:=pW;have d:EP X c B Q w s:=⟨z,H,I,m,q⟩;by_cases D:0<=i
 ·have f:i.toNat=j:=by rw[seqIndex_of D N]at e;exact aaW e
  exact item_listR l.isList D (by omega) (by rw[f];simpa using A) d C
 ·have f:(i+(g.toArray.size:Int)).toNat=j:=by rw[seqIndex_neg (by omega) M]at e;rw[aau,<-F];exact aaW e
  exact subscriptTail_builtinR (x:=w) l.isList.typeIs slot_list_getitem.lookup
   (wpAny_getItem_list_neg (Q:=λr E=>r=w/\EP X c B Q r E) l.isList (by omega) (by rw[aau]<;>omega) (by omega) (by rw[f];simpa using A) ⟨rfl,d⟩) C
def eU{X:Cx}:Jq X (qg X.K):=by
 intro f g c s m H x y v u Q I G J h L;obtain⟨p,N,i,z,rfl,rfl,A,B,q⟩:=h;cases G;obtain⟨t,rfl⟩:=J;obtain⟨C,r,l,O⟩:=I.tuple A;obtain⟨j,D,E,P,R,S⟩:=vW B;obtain⟨w,F,e⟩:=r.get E;have o:=r.length;have M:=pW;have d:EP X c m Q w s:=⟨z,H,I,e,q⟩;exact subscriptTail_builtinR (x:=w) l.typeIs slot_tuple_getitem.lookup
  (getItem_tuple (j:=j) (Q:=λr n=>r=w/\EP X c m Q r n) l (by omega) (by omega) (by rw[aau,<-o];exact D) (by simpa using F) ⟨rfl,d⟩) L
def vI:Jq X Qz:=by
 intro d e g s J H x y v u Q I A B h C;obtain ⟨z,i,c,rfl,rfl,E,o,q⟩:=h;obtain ⟨t,rfl⟩:=A;obtain ⟨F,rfl⟩:=B;obtain ⟨j,f,p,G,r,w⟩:=vW o;have l:z.cps.toList.length=z.length:=by simp [Str.length]
 rw [l] at f r w;have D:=pW;exact tail_any (typeIs_str s z t) slot_str_getitem.lookup (getItem_str (c:=c) (by have m:decide (i < -(2 ^ 63:Int))=false:=aaR (by omega);have n:decide (i >= 2 ^ 63)=false:=aaR (by omega);rw [m,n,Bool.or_false]) (by rw [f];simpa using p) ⟨.str ⟨#[c]⟩,H,I.tok _,⟨_,rfl⟩,q⟩) C
noncomputable def XJ(K:Zs):R2:=λx y H Q=>Up K x y H Q\/qg K x y H Q\/Qz x y H Q
def Fg:Jq X (XJ X.K):=g_.or (eU.or vI)
def wj(c d:Option Int)(n:Nat):(sliceBounds c d none n).1=((HT.jB n 0 c:Nat):Int)/\(sliceBounds c d none n).2.1=((HT.jB n n d:Nat):Int)/\(sliceBounds c d none n).2.2=1:=by
 refine⟨?_,?_,rfl⟩
 ·cases c with
  |none=>simp[sliceBounds,HT.jB]
  | some i=>
    simp only[sliceBounds,HT.jB,Option.getD_none,show(1:Int) >0 by decide,if_true];by_cases h:i<0
    ·simp only[h,if_true]<;>omega
    ·simp only[h,if_false]<;>omega
 ·cases d with
  |none=>simp[sliceBounds,HT.jB]
  | some i=>
    simp only[sliceBounds,HT.jB,Option.getD_none,show(1:Int) >0 by decide,if_true];by_cases h:i<0
    ·simp only[h,if_true]<;>omega
    ·simp only[h,if_false]<;>omega
def ud(c:Y3)(d e:Option Int):slicePick c.toArray d e none=((c.drop (HT.jB c.length 0 d)).take (HT.jB c.length c.length e-HT.jB c.length 0 d)).toArray:=by obtain⟨f,g,h⟩:=wj d e c.toArray.size;unfold slicePick;rw[f,g,h];simp only[sliceRange_one,pick_run,aau]<;>rfl
noncomputable def Yv(K:Zs):V->Option Int->Option Int->Hp->VK->Prop:=λx d e H Q=>∃a c,x=.ref a/\fj K H a c/\∀p,H p=none->Q (.ref p) (upd H p (.lst (nT c d e)))
def By:Wr X (Yv X.K):=by intro i s A H x v vl B e f C Q I n p w y h;obtain⟨a,c,rfl,j,q⟩:=h;cases n;obtain⟨l,r,g,m⟩:=I.list j;have d:=r.length;refine⟨"list",_,slot_list_getitem.lookup,g.isList.typeIs,?_⟩;refine wpAny_getItem_list_slice g.isList p w y .none (by simp) ?_ (by rw[aau]<;>omega);rw[ud,<-d];refine⟨.ref s.heap.objs.size,_,I.laid (t':=s.toks) (o:=.lst (nT c e f)) (λb z q=>aan _ q) (aaf _) ?_,rfl,q _ (I.hok.fresh (aaf _))⟩;exact⟨aag (qz c e f) m,_,0,(r.drop (HT.jB c.length 0 e)).take (HT.jB c.length c.length f-HT.jB c.length 0 e),aaC _ rfl⟩
noncomputable def pB:V->Bool
 |.non=>true
 |.bl _=>true
 |.int _=>true
 |.str _=>true
 |_=>false
noncomputable def zm:V->V->Bool
 |.non,.non=>true
 |.bl a,.bl b=>a==b
 |.bl a,.int b=>(if a then 1 else 0)==b
 |.int a,.bl b=>a==(if b then 1 else 0)
 |.int a,.int b=>a==b
 |.str a,.str b=>a==b
 |_,_=>false
theorem Od(e:RelV y u)(c:RelV x v)(g:pB y=true)(f:pB x=true):SeqAt.EqAt A s u v (zm y x):=by
 cases y with
 | non=>
   cases e;cases x with
   |non=>cases c;exact SeqAt.EqAt.same _
   |bl b=>cases c;exact SeqAt.EqAt.none_bool b
   |int b=>obtain⟨t,rfl⟩:=c;exact SeqAt.EqAt.none_int b t
   |str b=>obtain⟨t,rfl⟩:=c;exact SeqAt.EqAt.none_str b t
   |_=>exact absurd (show false=true from f) aaH
 | bl a=>
   cases e;cases x with
   |non=>cases c;exact SeqAt.EqAt.bool_none a
   |bl b=>cases c;exact SeqAt.EqAt.bool_bool a b
   |int b=>obtain⟨t,rfl⟩:=c;exact SeqAt.EqAt.bool_int a b t
   |str b=>obtain⟨t,rfl⟩:=c;exact SeqAt.EqAt.bool_str a b t
   |_=>exact absurd (show false=true from f) aaH
 | int a=>
   obtain⟨d,rfl⟩:=e;cases x with
   |non=>cases c;exact SeqAt.EqAt.int_none a d
   |bl b=>cases c;exact SeqAt.EqAt.int_bool a d b
   |int b=>obtain⟨t,rfl⟩:=c;exact SeqAt.EqAt.int_int a d b t
   |str b=>obtain⟨t,rfl⟩:=c;exact SeqAt.EqAt.int_str a d b t
   |_=>exact absurd (show false=true from f) aaH
 | str a=>
   obtain⟨d,rfl⟩:=e;cases x with
   |non=>cases c;exact SeqAt.EqAt.str_none a d
   |bl b=>cases c;exact SeqAt.EqAt.str_bool a d b
   |int b=>obtain⟨t,rfl⟩:=c;exact SeqAt.EqAt.str_int a d b t
   |str b=>obtain⟨t,rfl⟩:=c;exact SeqAt.EqAt.str_str a d b t
   |_=>exact absurd (show false=true from f) aaH
 |_=>exact absurd (show false=true from g) aaH
noncomputable def Ad(x:V)(u:ZI):Bool:=match u with
 |.none=>zm .non x
 |.bool b=>zm (.bl b) x
 |.int i _=>zm (.int i) x
 |.str z _=>zm (.str z) x
 |_=>false
theorem GX(r:RelV y u)(f:pB y=true):Ad x u=zm y x:=by
 cases y with
 |non=>cases r;rfl
 |bl b=>cases r;rfl
 |int i=>obtain⟨t,rfl⟩:=r;rfl
 |str z=>obtain⟨t,rfl⟩:=r;rfl
 |_=>exact absurd (show false=true from f) aaH
theorem pJ:∀{c:List V}{d:Y3},Vals c d->c.all pB=true->d.any (Ad x)=c.any λy=>zm y x
 |_,_,.nil,_=>rfl
 | y::c,u::d,.cons r t,f=>by rw[abZ,aaK]at f;rw[abw,abw,GX r f.1,pJ t f.2]
theorem nD(g:RelV x v)(h:pB x=true):∀{d:List V}{e:Y3},Vals d e->d.all pB=true->∀u∈e,SeqAt.EqAt A s u v (Ad x u)
 |_,_,.nil,_=>λu c=>by cases c
 | y::d,u::e,.cons r t,f=>λi c=>by
   rw[abZ,aaK]at f;rcases aai.mp c with rfl|c
   ·rw[GX r f.1];exact Od r g f.1 h
   ·exact nD g h t f.2 i c
noncomputable def inV(x:V)(c:List V):Bool:=c.any λy=>zm y x
noncomputable def YK(K:Zs)(neg:Bool):R2:=λx y H Q=>∃p c,y=.ref p/\(fj K H p c\/gf K H p c)/\pB x=true/\c.all pB=true/\Q (.bl (if neg then !inV x c else inV x c)) H
def mJ:m_ X (compareOp .In) (YK X.K false):=by
 intro i s o H x y v u Q I j m h;obtain⟨p,n,rfl,d,g,fs,q⟩:=h;cases m;rcases d with d|d
 ·obtain⟨c,r,f,l⟩:=I.list d;refine SeqAt.in_listAt (Ad x) f.isList (λw e=>nD j g r fs w (by simpa using e)) ⟨.bl _,H,I,rfl,?_⟩;rw[show c.toArray.any (Ad x)=c.any (Ad x) by simp,pJ r fs];exact q
 ·obtain⟨c,r,f,l⟩:=I.tuple d;refine SeqAt.in_tupleAt (Ad x) f (λw e=>nD j g r fs w (by simpa using e)) ⟨.bl _,H,I,rfl,?_⟩;rw[show c.toArray.any (Ad x)=c.any (Ad x) by simp,pJ r fs];exact q
def wK:m_ X (compareOp .NotIn) (YK X.K true):=by
 intro i s o H x y v u Q I j m h;obtain⟨p,n,rfl,d,g,fs,q⟩:=h;cases m;rcases d with d|d
 ·obtain⟨c,r,f,l⟩:=I.list d;refine SeqAt.notIn_listAt (Ad x) f.isList (λw e=>nD j g r fs w (by simpa using e)) ⟨.bl _,H,I,rfl,?_⟩;rw[show c.toArray.any (Ad x)=c.any (Ad x) by simp,pJ r fs];exact q
 ·obtain⟨c,r,f,l⟩:=I.tuple d;refine SeqAt.notIn_tupleAt (Ad x) f (λw e=>nD j g r fs w (by simpa using e)) ⟨.bl _,H,I,rfl,?_⟩;rw[show c.toArray.any (Ad x)=c.any (Ad x) by simp,pJ r fs];exact q
def dO:jX X (.builtin "len") (λi H Q=>∃p ys,i=[.ref p]/\(fj X.K H p ys\/gf X.K H p ys)/\Q (.int ys.length) H):=by
 intro j s o H i v Q I r h;obtain⟨p,ys,rfl,d,q⟩:=h;obtain⟨u,rfl,l⟩:=vals1 r;cases l;have n:=pW;rcases d with d|d
 ·obtain⟨e,f,g,m⟩:=I.list d;have c:=f.length;exact Calls.call_len_list g.isList (by simp only[aau]<;>omega) ⟨.int ys.length,H,I.tok _,⟨s.toks+1,by rw[aau,c]⟩,q⟩
 ·obtain⟨e,f,g,m⟩:=I.tuple d;have c:=f.length;exact len_tuple g (by simp only[aau]<;>omega) ⟨.int ys.length,H,I.tok _,⟨s.toks+1,by rw[aau,c]⟩,q⟩
def pF:jX X (.builtin "len") (λc H Q=>∃z,c=[.str z]/\z.length<=sizeLine/\Q (.int z.length) H):=by intro d s g H c i Q I r h;obtain⟨z,rfl,f,q⟩:=h;obtain⟨u,rfl,t,rfl⟩:=vals1 r;have e:=pW;exact len_str (by omega) ⟨.int z.length,H,I.tok _,⟨_,rfl⟩,q⟩
def vX:jX X (.type "list") (λA H Q=>∃p ys,A=[.ref p]/\(fj X.K H p ys\/gf X.K H p ys)/\∀l,H l=none->Q (.ref l) (upd H l (.lst ys))):=by
 intro w s D H A E Q I r h;obtain⟨p,ys,rfl,v,q⟩:=h;obtain⟨u,rfl,C⟩:=vals1 r;cases C;have j:∀(c:Y3),Vals ys c->ys.length<=sizeLine->∀(d:ZN)(g:Nat),(∀b B,s.heap.get? b=some B->d.get? b=some B)->
  d.get? s.heap.objs.size=some {cls:=.type "list",dict:=none,data:=.seq c.toArray g,slots:=#[]}->EP X w D Q (.ref s.heap.objs.size) {s with heap:=d}:=λc f i d g kp e=>
  ⟨.ref s.heap.objs.size,_,I.laid (t':=s.toks) kp (aaf _) (show iw X.prog X.w _ d _ (.lst ys)from⟨i,c,g,f,e⟩),rfl,q _ (I.hok.fresh (aaf _))⟩;rcases v with v|v
 ·obtain⟨c,f,x,i⟩:=I.list v;have m:=f.length;obtain⟨o,y,z,n,hd⟩:=x.isList;exact call_list_seq p (.inl rfl) y z hd (λd g kp e=>j c f i d g kp e) (by simp only[aau]<;>omega)
 ·obtain⟨c,f,x,i⟩:=I.tuple v;have m:=f.length;obtain⟨o,y,z,n,hd⟩:=x;exact call_list_seq p (.inr rfl) y z hd (λd g kp e=>j c f i d g kp e) (by simp only[aau]<;>omega)
def jn:jX X (.type "tuple") (λm H Q=>∃p ys,m=[.ref p]/\((fj X.K H p ys/\∀l,H l=none->Q (.ref l) (upd H l (.tup ys)))\/(gf X.K H p ys/\Q (.ref p) H))):=by
 intro c s x H m A Q I r h;obtain⟨p,ys,rfl,h⟩:=h;obtain⟨u,rfl,z⟩:=vals1 r;cases z;rcases h with⟨j,q⟩|⟨j,q⟩
 ·obtain⟨d,g,i,w⟩:=I.list j;have n:=g.length;refine call_tuple_list i.isList (λf kp=>?_) (by simp only[aau]<;>omega);have v:Inv X c x H {s with heap:=f}:=I.kept (t':=s.toks) kp;have y:Inv X c x (upd H f.objs.size (.tup ys)) {s with heap:=f.push {cls:=.type "tuple",data:=.seq d.toArray}}:=
   v.laid (t':=s.toks) (λb o e=>aan _ e) (aaf _) (show iw X.prog X.w _ _ _ (.tup ys)from⟨w,d,g,IsTup.new _ _⟩);exact⟨.ref f.objs.size,_,y,rfl,q _ (v.hok.fresh (aaf _))⟩
 ·obtain⟨d,g,i,w⟩:=I.tuple j;exact call_tuple_same i ⟨.ref p,H,I,rfl,q⟩
noncomputable def Xf(K:Zs)(T:String)(x:V)(H:Hp):Prop:=match x with
 |.str _=>T="str"
 |.int _=>T="int"
 |.ref p=>(T="list"/\∃d,fj K H p d)\/(T="tuple"/\∃o,K.lookup p=some o/\o.cls=.type "tuple"/\o.dict=none)\/
  (T="dict"/\((∃c,H p=some (.dK c))\/∃c,H p=some (.dT c)))\/(T="set"/\∃S n,H p=some (.set S n))
 |_=>False
theorem Jb(I:Inv X f y H s)(r:RelV x v)(ty:Xf X.K T x H):
 s.TypeIs v T/\∀a,v=.ref a->∃j,s.heap.get? a=some j/\j.dict=none:=by
 cases x with
 | str z=>obtain⟨t,rfl⟩:=r;cases(show T="str"from ty);exact⟨typeIs_str s z t,λ_ e=>nomatch e⟩
 | int i=>obtain⟨t,rfl⟩:=r;cases(show T="int"from ty);exact⟨typeIs_int s i t,λ_ e=>nomatch e⟩
 | ref p=>
   cases r;rcases ty with⟨rfl,A,q⟩|⟨rfl,o,hk,w,hd⟩|⟨rfl,hk⟩|⟨rfl,S,n,hk⟩
   ·obtain⟨m,_,l,_⟩:=I.list q;refine⟨l.isList.typeIs,λa e=>?_⟩;cases e;obtain⟨o,n,e,c,hd,_⟩:=l;exact⟨o,e,hd⟩
   ·refine⟨⟨o,I.kIn p o hk,w⟩,λa e=>?_⟩;cases e;exact⟨o,I.kIn _ o hk,hd⟩
   ·have z:∃o,s.heap.get? p=some o/\o.ExactDict:=by
     rcases hk with⟨h,hk⟩|⟨h,hk⟩
     ·obtain⟨_,_,_,_,o,_,_,e,d,_⟩:=I.hok p _ hk;exact⟨o,e,d⟩
     ·obtain⟨_,_,_,_,o,_,_,e,d,_⟩:=I.hok p _ hk;exact⟨o,e,d⟩
    obtain⟨o,e,d⟩:=z;refine⟨⟨o,e,d.1⟩,λa g=>?_⟩;cases g;exact⟨o,e,d.2.1⟩
   ·obtain⟨o,_,_,_,e,d,_⟩:=I.hok p _ hk;refine⟨⟨o,e,d.1⟩,λa g=>?_⟩;cases g;exact⟨o,e,d.2.1⟩
 |_=>exact False.elim ty
def Xv(K:Zs)(T:String)(r:V->List V->Hp->VK->Prop)(e:TE):TE:=λd H Q=>e d H λx c=>Xf K T x c/\r x [] c Q
noncomputable def tBM(K:Zs)(T:String)(r:V->List V->Hp->VK->Prop)(g:TE)(t:TA):TE:=λc H Q=>g c H λx d=>Xf K T x d/\t c d λe f=>r x e f Q
def vK{X:Cx}{o:ZT}{B:TE}{a:Str}{b e:Pos}{T A:String}{r:V->List V->Hp->VK->Prop}(w:PlainAttrs T)(g:Slot T a A)(i:typeOf (.builtin A)=pure (.type "method_descriptor"))(y:Kf X A r)(z:PE X o B)
 (d:attributeBase o a X.env (eval o X.env)=eval o X.env:=by rfl)(f:(b.endLine==e.line)=true:=by rfl):PE X (.Call (.Attribute o a b) [] [] e) (Xv X.K T r B):=by
 intro c s l H Q I h;refine wpAny_Call_method0_late d f (gH (z c s l H _ I h) λv m⟨x,n,j,r1,ty,q1⟩=>?_);obtain⟨p,q⟩:=Jb j r1 ty;exact⟨T,A,w,g,i,p,q,ach rfl (PySem.evalArgs_none (y c m l n x [] v [] Q j r1 .nil q1))⟩
def lE{X:Cx}{o e:ZT}{M:YU}{P:TE}{t:TA}{b:Str}{N a:Pos}{T O:String}{r:V->List V->Hp->VK->Prop}(E:PlainAttrs T)(i:Slot T b O)(m:typeOf (.builtin O)=pure (.type "method_descriptor"))(F:Kf X O r)(G:PE X o P)(J:PA X (e::M) t)
 (f:attributeBase o b X.env (eval o X.env)=eval o X.env:=by rfl)
 (j:((backTo a (starEach (e::M) X.env)).all (λx=>!x.1)&&(backToKw a (keywordEach [] X.env)).all (λx=>x.1.isSome)&&decide ((e::M).length+([]:List Keyword).length+(if ([]:List Keyword).isEmpty then 0 else 1)<30))=true:=by rfl)
 (g:(N.endLine==a.line)=true:=by rfl)(L:starEach (e::M) X.env=(false,eval e X.env)::starEach M X.env:=by rfl)(d:(backTo a (starEach M X.env)).any (·.1)=false:=by rfl):
 PE X (.Call (.Attribute o b N) (e::M) [] a) (tBM X.K T r P t):=by
 intro c s l H Q I h;refine wpAny_Call_method_late f j g rfl (gH (G c s l H _ I h) λv q⟨x,w,n,r1,ty,q1⟩=>?_);obtain ⟨C,D⟩:=Jb n r1 ty;refine ⟨T,O,E,i,m,C,D,?_⟩;have p:=J a c q l w _ n q1;rw [L]at p|-;refine ach (by show (false||(backTo a (starEach M X.env)).any (·.1))=false;rw [d]<;>rfl) (Calls.evalArgs_plain ?_);exact gH p λy z⟨vs,A,B,r2,q2⟩=>F c z l A x vs v y Q B r1 r2 q2
noncomputable def Vp(X:Cx)(e:String)(r:V->List V->Hp->VK->Prop):Prop:=
 ∀(a:YN)(s:Zp)(b:St)(H:Hp)(x:V)(c:List V)(v:ZI)(d:Y3)(Q:VK),Inv X a b H s->RelV x v->Vals c d->r x c H Q->
   wpAny (model X.prog X.w) X.A (call (.builtin e) (v::d)) (EP X a b Q) X.xe s
theorem Vals.one:∀{x:V}{a:Y3},Vals [x] a->∃u,a=[u]/\RelV x u
 |_,_,.cons r .nil=>⟨_,rfl,r⟩
theorem Vals.zero:∀{a:Y3},Vals [] a->a=[]
 |_,.nil=>rfl
theorem Vals.dropLast(h:Vals a b):Vals a.dropLast b.dropLast:=by
 induction h with
 |nil=>exact .nil
 | cons r t c=>
   cases t with
   |nil=>exact .nil
   |cons q d=>exact .cons r c
theorem Vals.eraseIdx:∀{a:List V}{b:Y3}(i:Nat),Vals a b->Vals (a.eraseIdx i) (b.eraseIdx i)
 |_,_,_,.nil=>.nil
 |_,_,0,.cons _ t=>t
 |_,_,i+1,.cons r t=>.cons r (Vals.eraseIdx i t)
theorem yZ{d:Type}(l:List d):l.eraseIdx (l.length-1)=l.dropLast:=by
 induction l with
 |nil=>rfl
 | cons a r c=>
   cases r with
   |nil=>rfl
   | cons b r=>
     have e:(a::b::r).length-1=((b::r).length-1)+1:=by have f:(a::b::r).length=r.length+2:=rfl;have g:(b::r).length=r.length+1:=rfl;omega
     rw[e,aci,c]
     all_goals rfl
theorem uX{a:Type}:∀(l:List a)(i:Nat),(l.eraseIdx i).length<=l.length
 |[],_=>aaf _
 |_::_,0=>abo _
 |_::r,i+1=>Nat.succ_le_succ (uX r i)
section
variable{X:Cx}{eH:YN}{σ:St}{H:Hp}{s:Zp}{l b:Zl}{xs ys zs:List V}
def Inv.lset{a its':Y3}{f:Array Value->Array Value}(I:Inv X eH σ H s)(g:H l=some (.lst xs))
 (e:s.heap.get? l=some {cls:=.type "list",data:=.seq a.toArray n})(h:f a.toArray=its'.toArray)(i:Vals ys its')(j:ys.length<=sizeLine):
 Inv X eH σ (upd H l (.lst ys)) {s with heap:=s.heap.update l (Obj.mapSeq f),toks:=t'}:=by
 have q:=PySem.IsL.update e f;rw[h]at q;refine I.write (x:=l) (e:=l) (by rw[g];exact trivial) (.inl rfl) (λm u c d=>(Heap.get?_update_other s.heap (Obj.mapSeq f) (aaI c)).trans d) ⟨_,q⟩ ?_;exact⟨j,its',_,i,q⟩
def Inv.lnew(I:Inv X eH σ H s)(c:Vals ys a)(d:ys.length<=sizeLine):
 Inv X eH σ (upd H s.heap.objs.size (.lst ys)) {s with heap:=s.heap.push {cls:=.type "list",data:=.seq a.toArray},toks:=t'}:=
 I.laid (λ_ _ q=>aan _ q) (aaf _) ⟨d,a,0,c,aaC _ rfl⟩
def Inv.fresh(I:Inv X eH σ H s):H s.heap.objs.size=none:=I.hok.fresh (aaf _)
def Inv.lstM(I:Inv X eH σ H s)(c:H l=some (.lst xs)):xs.length<=sizeLine/\∃(a:Y3)(n:Nat),Vals xs a/\xs.length=a.length/\s.heap.get? l=some {cls:=.type "list",data:=.seq a.toArray n}:=by obtain⟨z,a,n,r,e⟩:=I.hok l _ c;exact⟨z,a,n,r,r.length,e⟩
def Jd(h:n<=sizeLine):Builtin.List.listTooLong n=false:=by unfold Builtin.List.listTooLong;exact aaR (by omega)
end
section
variable{X:Cx}
noncomputable def Ma:V->List V->Hp->VK->Prop:=λx vs H Q=>∃l a y,x=.ref l/\vs=[y]/\H l=some (.lst a)/\a.length<sizeLine/\Q .non (upd H l (.lst (a++[y])))
def j4:Vp X "list.append" Ma:=by intro c s o H x vs v p Q I f g h;obtain⟨l,i,y,rfl,rfl,b,j,q⟩:=h;cases f;obtain⟨u,rfl,d⟩:=g.one;obtain⟨z,a,n,r,m,e⟩:=I.lstM b;refine call_meets F.slot_list_append ⟨_,e,rfl⟩ F.entry_list_append (F.args_list_append_2 _ _) (PySem.list_append l a.toArray n u (by rw[aau];omega)) ⟨e,?_⟩;refine⟨.non,_,I.lset (its':=a++[u]) b e (by simp) (r.append (.cons d .nil)) ?_,rfl,q⟩;rw[aas,List.length_singleton];omega
noncomputable def Mp:V->List V->Hp->VK->Prop:=λx vs H Q=>∃l b a c,x=.ref l/\vs=[.ref b]/\H l=some (.lst a)/\H b=some (.lst c)/\a.length+c.length<=sizeLine/\Q .non (upd H l (.lst (a++c)))
def Dt:Vp X "list.extend" Mp:=by
 intro eH s σ H x vs v us Q I rx rv h;obtain⟨l,b,xs,zs,rfl,rfl,hH,hB,hz,q⟩:=h;cases rx;obtain⟨u,rfl,ru⟩:=rv.one;cases ru;obtain⟨z,its,n,r,hl,e⟩:=I.lstM hH;obtain⟨z2,its2,n2,r2,hl2,e2⟩:=I.lstM hB;have hsz:its.toArray.size+its2.toArray.size<=sizeLine:=by rw[aau,aau];omega
 have hlong:¬(!its.toArray.isEmpty&&Builtin.List.listTooLong (its.toArray.size+its2.toArray.size))=true:=by rw[Jd hsz,acK];exact aaH
 refine call_meets F.slot_list_extend ⟨_,e,rfl⟩ F.entry_list_extend (F.args_list_extend_2 _ _)
  (AutoSeq1.list_extend_list_list_0 l its.toArray n b its2.toArray n2 hlong (by rw[aau];omega) (by omega)) ⟨e,e2,?_⟩;refine⟨.non,_,I.lset (its':=its++its2) hH e (by simp) (r.append r2) ?_,rfl,q⟩;rw[aas];omega
noncomputable def Xq:V->List V->Hp->VK->Prop:=λx vs H Q=>∃l a y,x=.ref l/\vs=[]/\H l=some (.lst a)/\a[a.length-1]?=some y/\Q y (upd H l (.lst a.dropLast))
def WD:Vp X "list.pop" Xq:=by
 intro f s A H x vs v B Q I o p h;obtain⟨l,w,y,rfl,rfl,d,g,q⟩:=h;cases o;have b:=p.zero;subst b;obtain⟨z,a,n,r,i,e⟩:=I.lstM d;obtain⟨u,j,m⟩:=r.get g;have c:a.toArray[a.toArray.size-1]?=some u:=by show a.toArray[a.length-1]?=some u;rw[<-acL,<-i];exact j
 refine call_meets F.slot_list_pop ⟨_,e,rfl⟩ F.entry_list_pop (F.args_list_pop_1 _) (MeetsSeq.list_pop_last l a.toArray n u c (by rw[aau];omega)) ⟨e,?_⟩;refine⟨y,_,I.lset (its':=a.dropLast) d e ?_ r.dropLast ?_,m,q⟩
 ·show a.toArray.eraseIdxIfInBounds (a.toArray.size-1)=a.dropLast.toArray;rw[aau,ac4,yZ]
 ·rw[List.length_dropLast];omega
noncomputable def R5:V->List V->Hp->VK->Prop:=λx vs H Q=>∃l a i k y,x=.ref l/\vs=[.int i]/\H l=some (.lst a)/\-(2 ^ 63)<=i/\i<2 ^ 63/\seqIndex? i a.length=some k/\a[k]?=some y/\Q y (upd H l (.lst (a.eraseIdx k)))
def J0:Vp X "list.pop" R5:=by
 intro d s D H x vs v E Q I B C h;obtain⟨l,f,i,k,y,rfl,rfl,c,g,j,hk,m,q⟩:=h;cases B;obtain⟨u,rfl,o⟩:=C.one;obtain⟨t,rfl⟩:=o;obtain⟨z,a,n,r,p,e⟩:=I.lstM c;obtain⟨w,A,b⟩:=r.get m;refine call_meets F.slot_list_pop ⟨_,e,rfl⟩ F.entry_list_pop (F.args_list_pop_2 _ _)
  (MeetsSeq.list_pop_at l a.toArray n i t k w (fitsIndex_both g j) (by rw[aau,<-p];exact hk) (by rw[<-acL];exact A) (by rw[aau];omega)) ⟨e,?_⟩;refine⟨y,_,I.lset (its':=a.eraseIdx k) c e ?_ (r.eraseIdx k) ?_,b,q⟩
 ·show a.toArray.eraseIdxIfInBounds k=(a.eraseIdx k).toArray;rw[ac4]
 ·have:=uX f k;omega
noncomputable def QZ:V->List V->Hp->VK->Prop:=λx vs H Q=>∃l a,x=.ref l/\vs=[]/\H l=some (.lst a)/\Q .non (upd H l (.lst []))
def Hu:Vp X "list.clear" QZ:=by intro d s m H x vs v o Q I f g h;obtain⟨l,i,rfl,rfl,c,q⟩:=h;cases f;have a:=g.zero;subst a;obtain⟨z,b,n,r,j,e⟩:=I.lstM c;refine call_meets F.slot_list_clear ⟨_,e,rfl⟩ F.entry_list_clear (F.args_list_clear_1 _) (AutoSeq1.list_clear_list_0 l b.toArray n (by rw[aau];omega)) ⟨e,?_⟩;exact⟨.non,_,I.lset (its':=[]) (ys:=[]) c e rfl .nil (aaJ _),rfl,q⟩
noncomputable def Yo:R2:=λx y H Q=>∃l b a c,x=.ref l/\y=.ref b/\H l=some (.lst a)/\H b=some (.lst c)/\a.length+c.length<=sizeLine/\∀p,H p=none->Q (.ref p) (upd H p (.lst (a++c)))
def R3:m_ X (binaryOp .Add) Yo:=by
 intro d s E H x y v u Q I o p h;obtain⟨l,b,w,A,rfl,rfl,g,i,B,q⟩:=h;cases o;cases p;obtain⟨z,c,n,r,C,e⟩:=I.lstM g;obtain⟨z2,a,D,r2,j,m⟩:=I.lstM i;refine PySem.P.add_list e m ?_ (by rw[aau,aau];omega);have f:c.toArray++a.toArray=(c++a).toArray:=by simp
 rw[f];exact⟨.ref _,_,I.lnew (t':=s.toks) (r.append r2) (by rw[aas];omega),rfl,q _ I.fresh⟩
end
section
variable{κ:Type}[DecidableEq κ]
noncomputable def jq(a:List (κ×V))(k:κ):Option V:=(a.find? λb=>decide (b.1=k)).map (·.2)
noncomputable def putK(a:List (κ×V))(k:κ)(v:V):List (κ×V):=
 if (a.any λb=>decide (b.1=k))=true then a.map (λb=>if b.1=k then (b.1,v)else b)else a++[(k,v)]
def nO{p:κ×V}{r:List (κ×V)}{k:κ}(e:p.1=k):jq (p::r) k=some p.2:=by simp[jq,abF,e]
def mD{p:κ×V}{r:List (κ×V)}{k:κ}(e:¬p.1=k):jq (p::r) k=jq r k:=by simp[jq,abF,e]
theorem pQ (k:κ):∀ a:List (κ×V),(a.any λ b=>decide (b.1=k))=(jq a k).isSome
 |[]=>rfl
 | p::r=>by
   rw [abw];by_cases e:p.1=k
   ·simp only [nO e,aa1 e,Bool.true_or,Option.isSome_some]
   ·rw [mD e,aaR e,Bool.false_or];exact pQ k r
def lO(a:List (κ×V))(k:κ)(v:V):(putK a k v).length<=a.length+1:=by
 unfold putK;split
 ·rw[aad];omega
 ·rw[aas,aav,aa6];omega
def G3{a:List (κ×V)}{k:κ}(v:V)(h:jq a k=none):putK a k v=a++[(k,v)]:=by unfold putK;rw[pQ,h];exact aab (by decide)
theorem o7.isSome_eq(r:o7 o u):o.isSome=u.isSome:=by
 cases o with
 | none=>cases u with
   |none=>rfl
   |some _=>exact(show False from r).elim
 | some _=>cases u with
   |none=>exact(show False from r).elim
   |some _=>rfl
theorem KV.val{a:List (κ×V)}{vs:List (κ×Value)}(r:KV a vs)(k:κ):o7 (jq a k) (valueAt vs k):=by
 unfold KV at r;induction r with
 |nil=>exact aaP
 | @cons p q j d h t i=>
   obtain⟨f,g⟩:=h;by_cases e:p.1=k
   ·have c:q.1=k:=f.symm.trans e;have b:valueAt (q::d) k=some q.2:=by simp[valueAt,abF,c]
    rw[nO e,b];exact g
   ·have c:¬q.1=k:=λz=>e (f.trans z);have b:valueAt (q::d) k=valueAt d k:=by simp[valueAt,abF,c]
    rw[mD e,b];exact i
theorem KV.any{a:List (κ×V)}{vs:List (κ×Value)}(r:KV a vs)(k:κ):(a.any λb=>decide (b.1=k))=vs.any λb=>decide (b.1=k):=by
 unfold KV at r;induction r with
 |nil=>rfl
 |cons h t c=>rw [abw,abw,c,h.1]
theorem KV.repl(r:KV b vs)(k:κ)(g:RelV y u):
 KV (b.map λa=>if a.1=k then(a.1,y)else a) (vs.map λa=>if a.1=k then(a.1,u)else a):=by
 unfold KV at r|-;induction r with
 |nil=>exact .nil
 | @cons p q i j h t f=>
   rw[aat,aat];refine .cons ?_ f;obtain⟨c,d⟩:=h;by_cases e:p.1=k
   ·rw[aac e,aac (c.symm.trans e)];exact⟨c,g⟩
   ·rw[aab e,aab (λz=>e (c.trans z))];exact⟨c,d⟩
def KV.put(r:KV a vs)(k:κ)(b:RelV y u):KV (putK a k y) (stored vs k u):=by
 unfold putK stored;rw [r.any k];by_cases e:(vs.any λc=>decide (c.1=k))=true
 ·rw [aac e,aac e];exact r.repl k b
 ·rw [aab e,aab e];exact Paired.snoc r ⟨rfl,b⟩
def KV.length{a:List (κ×V)}{vs:List (κ×Value)}(r:KV a vs):a.length=vs.length:=aaV r
end
theorem rH(r:RelV (kV k) u):(iC P w).is k u=true:=by
 cases k with
 |inl i=>obtain⟨t,e⟩:=(show∃t,u=Value.int i t from r);subst e;exact yL P w i t
 |inr x=>obtain⟨t,e⟩:=(show∃t,u=Value.str x t from r);subst e;exact xM P w x t
theorem vm:∀{a:List Key}{b:Y3},Vals (a.map kV) b->ItemsAre (iC P w) a b
 |[],_,r=>by rw[ab0]at r;cases r;exact .nil
 | k::a,_,r=>by
   rw[aat]at r;cases r with
   |cons h t=>exact .cons (rH h) (vm t)
abbrev KT(H:Hp):List (List Key×V)->List (List Key×Addr×Value)->Prop:=Paired λp q=>p.1=q.1/\H q.2.1=some (.tup (p.1.map kV))/\RelV p.2 q.2.2
theorem KT.val{H:Hp}{a:List (List Key×V)}{g:List (List Key×Addr×Value)}(r:KT H a g)(k:List Key):o7 (jq a k) ((atKey g k).map (·.2)):=by
 induction r with
 |nil=>exact aaP
 | @cons p q l d h t j=>
   obtain⟨f,_,i⟩:=h;by_cases e:p.1=k
   ·have c:q.1=k:=f.symm.trans e;have b:atKey (q::d) k=some q.2:=by simp[atKey,abF,c]
    rw[nO e,b];exact i
   ·have c:¬q.1=k:=λz=>e (f.trans z);have b:atKey (q::d) k=atKey d k:=by simp[atKey,abF,c]
    rw[mD e,b];exact j
theorem KT.repl{H:Hp}{a:List (List Key×V)}{f:List (List Key×Addr×Value)}(r:KT H a f)(k:List Key){y:V}{u:ZI}(j:RelV y u):
 KT H (a.map λc=>if c.1=k then(c.1,y)else c) (f.map (putAt k u)):=by
 induction r with
 |nil=>exact .nil
 | @cons p q l m h t i=>
   rw[aat,aat];refine .cons ?_ i;obtain⟨b,d,g⟩:=h;unfold putAt;by_cases e:p.1=k
   ·rw[aac e,aac (b.symm.trans e)];exact⟨b,d,j⟩
   ·rw[aab e,aab (λz=>e (b.trans z))];exact⟨b,d,g⟩
def KT.put{H:Hp}{a:List (List Key×V)}{c:List (List Key×Addr×Value)}(r:KT H a c)(k:List Key){b:Zl}{y:V}{u:ZI}(g:H b=some (.tup (k.map kV)))(d:RelV y u):
 KT H (putK a k y) (storedH c k b u):=by
 have e:(a.any λf=>decide (f.1=k))=(atKey c k).isSome:=by rw [pQ,(r.val k).isSome_eq,acM]
 unfold putK storedH;rw [e];by_cases q:(atKey c k).isSome=true
 ·rw [aac q,aac q];exact r.repl k d
 ·rw [aab q,aab q];exact Paired.snoc r ⟨rfl,g,d⟩
def KT.keeps{H c:Hp}(r:KT H a d)(e:∀b ys,H b=some (.tup ys)->c b=some (.tup ys)):KT c a d:=
 Paired.mapP r λ_ _ z=>⟨z.1,e _ _ z.2.1,z.2.2⟩
def Nh(ok:oG P w H h)(e:Rd H a u):iw P w H h a u:=e.ok ok
def tX(ok:oG P w H h)(e:Rd H a (.dK b)):b.length<=sizeLine/\(a==sysModules)=false/\∃vs,KV b vs/\h.DictOf (iC P w) a vs:=
 show iw P w H h a (.dK b)from Nh ok e
def xq(ok:oG P w H h)(e:H a=some (.dK b)):b.length<=sizeLine/\(a==sysModules)=false/\∃vs,KV b vs/\h.DictOf (iC P w) a vs:=tX ok (.inl e)
def tZ(ok:oG P w H h)(e:H a=some (.tup (c.map kV))):(tupleKind (iC P w)).is h c a:=by obtain⟨_,b,r,o,d,f,n,g⟩:=(show iw P w H h a (.tup (c.map kV))from ok a _ e);exact⟨o,b.toArray,n,d,f,g,by simpa using vm r⟩
def yx(ok:oG P w H h)(e:Rd H a (.dT b)):b.length<=sizeLine/\(a==sysModules)=false/\
 ∃d,KT H b d/\h.DictOfH (tupleKind (iC P w)) a d:=by
 obtain⟨z,y,d,r,o,g,i,j,n,s,v,A⟩:=(show iw P w H h a (.dT b)from Nh ok e);refine⟨z,y,d,r,o,g,i,j,n,s,v,λx c=>?_,A⟩;have all:∀{l:List (List Key×V)}{m:List (List Key×Addr×Value)},KT H l m->∀x∈m,(tupleKind (iC P w)).is h x.1 x.2.1:=by
  intro l m q;induction q with
  |nil=>intro x c;exact nomatch c
  | @cons p q C D f t B=>
    intro x c;rcases aai.mp c with e|c
    ·subst e;exact tZ ok (by rw[<-f.1];exact f.2.1)
    ·exact B x c
 exact all r x c
def U0(ok:oG P w H h)(e:H a=some (.dT b)):b.length<=sizeLine/\(a==sysModules)=false/\
 ∃c,KT H b c/\h.DictOfH (tupleKind (iC P w)) a c:=yx ok (.inl e)
noncomputable def j8(H:Hp)(a:Zl)(y:V)(r:Option V):Prop:=
 (∃c k,Rd H a (.dK c)/\y=kV k/\r=jq c k)\/∃c k b,Rd H a (.dT c)/\y=.ref b/\H b=some (.tup (k.map kV))/\r=jq c k
noncomputable def o8(H:Hp)(a:Zl)(y v:V)(d:Hp):Prop:=
 (∃c k,H a=some (.dK c)/\y=kV k/\c.length<sizeLine/\d=upd H a (.dK (putK c k v)))\/
 ∃c k b,H a=some (.dT c)/\y=.ref b/\H b=some (.tup (k.map kV))/\c.length<sizeLine/\d=upd H a (.dT (putK c k v))
def j8.k{H:Hp}{a:Zl}{b:List (Key×V)}{k:Key}(e:H a=some (.dK b)):j8 H a (kV k) (jq b k):=.inl ⟨b,k,.inl e,rfl,rfl⟩
def o8.k{H:Hp}{a:Zl}{b:List (Key×V)}{k:Key}{v:V}(e:H a=some (.dK b))(c:b.length<sizeLine):o8 H a (kV k) v (upd H a (.dK (putK b k v))):=.inl ⟨b,k,e,rfl,c,rfl⟩
section
variable{X:Cx}{eH:YN}{σ:St}{H:Hp}{s:Zp}{a:Zl}{y v:V}{u r:ZI}{o:Option V}{A:ZO}{E:ZY}
def Inv.big(I:Inv X eH σ H s):sysModules<s.heap.objs.size:=by have h:mainGlobals<s.heap.objs.size:=(I.mod.glob.keeps I.bk).lt;exact Nat.lt_trans (by decide) h
def Ds(D:A.units+1<cLine)(I:Inv X eH σ H s)(g:j8 H a y (some v))(w:RelV y u)(h:∀f q,Inv X eH σ H q->RelV v f->Q f q):
 wpAny (model X.prog X.w) A (getItem (.ref a) u) Q E s:=by
 rcases g with⟨m,k,e,n,l⟩|⟨m,k,b,e,n,C,l⟩
 ·subst n;obtain⟨z,hd,vs,c,dd⟩:=tX I.hok e;obtain⟨f,i,d⟩:=o7.some_of (v:=v) (o:=valueAt vs k) (by rw[l];exact c.val k);exact wpAny_getItem_of (rH w) dd.mapOf i (h f _ (I.tok _) d)
 ·subst n;cases(show u=Value.ref b from w);obtain⟨z,hd,x,c,dd⟩:=yx I.hok e;obtain⟨f,i,d⟩:=o7.some_of (v:=v) (o:=(atKey x k).map (·.2)) (by rw[l];exact c.val k);obtain⟨p,B,j⟩:=abC.mp i;refine wpAny_getItem_heap (tupleKind_room_in1 D) (tZ I.hok C) dd B ?_;rw[j];exact h f _ (I.tok _) d
def YM(n:A.units+1<cLine)(I:Inv X eH σ H s)(g:j8 H a y o)(j:RelV y u)(h:∀i,Inv X eH σ H i->Q (.bool o.isSome) i):
 wpAny (model X.prog X.w) A (compareOp .In u (.ref a)) Q E s:=by
 rcases g with⟨d,k,e,f,l⟩|⟨d,k,b,e,f,m,l⟩
 ·subst f;obtain⟨z,hd,vs,c,dd⟩:=tX I.hok e;refine wpAny_in_of (rH j) hd dd.mapOf ?_;rw[<-(c.val k).isSome_eq,<-l];exact h _ (I.tok _)
 ·subst f;cases(show u=Value.ref b from j);obtain⟨z,hd,p,c,dd⟩:=yx I.hok e;refine wpAny_in_heap (tupleKind_room_in1 n) (tZ I.hok m) hd dd ?_;have q:=(c.val k).isSome_eq;rw[acM]at q;rw[<-q,<-l];exact h _ (I.tok _)
def JX(n:A.units+1<cLine)(I:Inv X eH σ H s)(g:j8 H a y o)(j:RelV y u)(h:∀i,Inv X eH σ H i->Q (.bool (!o.isSome)) i):
 wpAny (model X.prog X.w) A (compareOp .NotIn u (.ref a)) Q E s:=by
 rcases g with⟨d,k,e,f,l⟩|⟨d,k,b,e,f,m,l⟩
 ·subst f;obtain⟨z,hd,vs,c,dd⟩:=tX I.hok e;refine wpAny_notIn_of (rH j) hd dd.mapOf ?_;rw[<-(c.val k).isSome_eq,<-l];exact h _ (I.tok _)
 ·subst f;cases(show u=Value.ref b from j);obtain⟨z,hd,p,c,dd⟩:=yx I.hok e;refine wpAny_notIn_heap (tupleKind_room_in1 n) (tZ I.hok m) hd dd ?_;have q:=(c.val k).isSome_eq;rw[acM]at q;rw[<-q,<-l];exact h _ (I.tok _)
def qT(I:Inv X eH σ H s)(g:Su (H a))(h:Heap.SameBut a s.heap c)(i:∃q,c.get? a=some q)(new:iw X.prog X.w (upd H a d) c a d):
 Inv X eH σ (upd H a d) {s with heap:=c,toks:=t'}:=
 I.write (x:=a) (e:=a) g (.inl rfl) (λb q f z=>(h.2 b f).trans z) i new
def vO(z:b.length<=sizeLine)(hd:(a==sysModules)=false)(c:KV b vs)(dd:d.DictOf (iC P w) a vs):
 iw P w e d a (.dK b):=⟨z,hd,vs,c,dd⟩
def Ey{Q:Unit->Shared->Prop}(W:A.units+1<cLine)(I:Inv X eH σ H s)(g:o8 H a y v G)(J:RelV y u)(L:RelV v r)(h:∀D,Inv X eH σ G D->Q () D):
 wpAny (model X.prog X.w) A (setItem (.ref a) u r) Q E s:=by
 rcases g with⟨f,k,e,w,l,x⟩|⟨f,k,b,e,w,F,l,x⟩
 ·subst w x;obtain⟨z,hd,vs,d,dd⟩:=xq I.hok e;have n:vs.length<=sizeLine:=by rw[<-d.length];exact z
  have p:(putK f k v).length<=sizeLine:=by have:=lO f k v;omega
  refine wpAny_setItem_pairs (hsz:=n) (rH J) dd λB i m=>h _ ?_;have M:∃q,B.get? a=some q:=let⟨q,_,_,j,_⟩:=i;⟨q,j⟩
  exact qT I (by rw[e];exact aaP) m M (vO p hd (d.put k L) i)
 ·subst w x;cases(show u=Value.ref b from J);obtain⟨z,hd,N,d,dd⟩:=U0 I.hok e;have n:N.length<=sizeLine:=by rw[<-aaV d];exact z
  have p:(putK f k v).length<=sizeLine:=by have:=lO f k v;omega
  refine wpAny_setItem_heap (hsz:=n) (tupleKind_room_in1 W) (tZ I.hok F) dd λB i m=>h _ ?_;obtain⟨q,O,P,j,R,S,T,_,U⟩:=i;refine qT I (by rw[e];exact aaP) m ⟨q,j⟩ ⟨p,hd,_,(d.put k F L).keeps λc ys C=>?_,q,O,P,j,R,S,T,U⟩;rw[c7 (j9 C e (λz=>nomatch z))];exact C
end
def Uj(I:Inv X d g H s)(e:Rd H a (.dK f))(h:∀t c,Inv X d g H c->Q (.int f.length t) c):wpAny (model X.prog X.w) A (call (.builtin "len") [.ref a]) Q E s:=by obtain⟨z,hd,vs,b,dd⟩:=tX I.hok e;refine call_len_dict hd dd (by rw[<-b.length];rw[sizeLine_eq]at z;omega) ?_;rw[<-b.length];exact h _ _ (I.tok _)
def RM(i:ZT):Prop:=∀a b,subscripted i false a b=operate [a,b] (getItem a b)
def Mj{a:ZE}{w:ZH}{A:ZO}{E:ZY}{s:Zp}{env:Env}{c b:ZT}{n:Pos}{T q:String}{Q:ZY}
 (v:typeLookup (.type T) "__getitem__"=pure (some (.builtin q)))(y:RM b)
 (h:wpAny (model a w) A (eval c env) (λo f=>wpAny (model a w) A (eval b env) (λi d=>d.TypeIs o T/\wpAny (model a w) A (getItem o i) Q E d) E f) E s):
 wpAny (model a w) A (eval (.Subscript c b n) env) Q E s:=by
 refine Subscript_ (aaG h (λo f l=>aaG l (λi d e=>?_) λ_ _ x=>x) λ_ _ x=>x);obtain⟨p,e⟩:=e;unfold subscriptTail;refine aaa ?_;rw[getitemInPython_of_ne p.not_modules];refine aaa (wpAny_specialOf p v ?_);have j:wpAny (model a w) A (subscripted b false o i) (λr g=>wpAny (model a w) A (letTemporaryGo c o r>>=λ_=>pure r) Q E g) E d:=by rw[y o i];exact wpAny_operating (aaG e (λr g m=>aaa (wpAny_letTemporaryGo (aae m))) λ_ _ x=>x)
 first
  |exact aae (aaa j)
  |exact aaa (aae (aaa j))
  |exact aaa j
def xN(I:Inv X c f H s)(g:j8 H a y o):s.TypeIs (.ref a) "dict":=by
 rcases g with⟨d,k,e,_,_⟩|⟨d,k,b,e,_,_,_⟩
 ·obtain⟨_,_,vs,_,dd⟩:=tX I.hok e;exact dd.typeIs
 ·obtain⟨_,_,h,_,dd⟩:=yx I.hok e;exact dd.typeIs
def Ve(e ty:TE):TE:=λb H Q=>e b H λx d=>ty b d λy c=>∃a v,x=.ref a/\j8 c a y (some v)/\Q v c
def XD(ty e:TE):TE:=λb H Q=>ty b H λy d=>e b d λx c=>∃a o,x=.ref a/\j8 c a y o/\Q (.bl o.isSome) c
def JW(ty e:TE):TE:=λb H Q=>ty b H λy d=>e b d λx c=>∃a o,x=.ref a/\j8 c a y o/\Q (.bl (!o.isSome)) c
def SN(g ty h:TE):TS:=λD b H=>h b H λv d=>g b d λx e=>ty b e λy f=>∃a c,x=.ref a/\o8 f a y v c/\D.nx b c
def fQ{X:Cx}(z:X.A.units+1<cLine)(A:PE X o J)(B:PE X i ty)(C:RM i:=by intro _ _;rfl):PE X (.Subscript o i e) (Ve J ty):=by intro b s f H Q I h;refine Mj PySem.F.slot_dict_getitem.lookup C (gH (A b s f H _ I h) λu j⟨x,l,m,n,q1⟩=>gH (B b j f l _ m q1) λD E⟨y,p,d,q,a,v,r,g,q2⟩=>?_);subst r;obtain rfl:u=Value.ref a:=n;exact⟨xN d g,Ds z d g q λF G w c=>⟨v,p,w,c,q2⟩⟩
def Ph{X:Cx}(w:X.A.units+1<cLine)(z:PE X i ty)(A:PE X o e):PC X .In i o (XD ty e):=by intro b s c H Q I h;refine gH (z b s c H _ I h) λB d⟨y,f,j,l,q1⟩=>gH (A b d c f _ j q1) λu C⟨x,m,n,p,a,q,r,g,q2⟩=>?_;subst r;obtain rfl:u=Value.ref a:=p;exact YM w n g l λD v=>⟨.bl q.isSome,m,v,rfl,q2⟩
def vy{X:Cx}(hu:X.A.units+1<cLine)(hi:PE X i ty)(ho:PE X o td):PC X .NotIn i o (JW ty td):=by intro eH s σ H Q I h;refine gH (hi eH s σ H _ I h) λiv s1⟨y,H1,I1,ry,q1⟩=>gH (ho eH s1 σ H1 _ I1 q1) λu s2⟨x,H2,I2,rx,a,ov,ex,g,q2⟩=>?_;subst ex;obtain rfl:u=Value.ref a:=rx;exact JX hu I2 g ry λs3 I3=>⟨.bl (!ov.isSome),H2,I3,rfl,q2⟩
def jo{X:Cx}{R:Pos}(F:X.A.units+1<cLine)(G:PE X o T)(J:PE X i ty)(L:PE X e U)(M:swapsWith e (some (.Subscript o i S)) R.line X.env=pure false):
 PS X (.Assign [.Subscript o i S] e R) (SN T ty U):=by
 intro b s c H D I h;refine wpAny_Assign_Subscript (gH (L b s c H _ I h) λr d⟨v,f,j,l,q1⟩=>gH (G b d c f _ j q1) λu m⟨x,n,p,q,q2⟩=>gH (J b m c n _ p q2) λN O⟨y,P,w,z,a,A,B,g,C⟩=>?_) M;subst B;obtain rfl:u=Value.ref a:=q;exact Ey F w g z l λQ E=>⟨c,A,E,C⟩
def rY(h:ZN)(a:sysModules<h.objs.size):iw P w H (h.push {cls:=.type "dict",data:=.dict #[]}) h.objs.size (.dK []):=
 ⟨aaJ _,abr.mpr (aaI (aay a)),[],.nil,Heap.DictOf.new h⟩
def Qo:TE:=λ_ H Q=>∀p,H p=none->Q (.ref p) (upd H p (.dK []))
def rR:PE X (.Dict [] [] d) Qo:=λb s c H Q I h=>wpAny_Dict_empty ⟨.ref s.heap.objs.size,_,I.laid (a:=s.heap.objs.size) (o:=.dK []) (t':=s.toks) (λ_ _ q=>aan _ q) (aaf _) (rY s.heap I.big),rfl,h _ (I.hok.fresh (aaf _))⟩
noncomputable def Ak:List (TE×TE)->St->Hp->(List (V×V)->Hp->Prop)->Prop
 |[],_,H,Q=>Q [] H
 |(tk,tv)::r,σ,H,Q=>tk σ H λx a=>tv σ a λy b=>Ak r σ b λc d=>Q ((x,y)::c) d
abbrev VV:List (V×V)->List (Value×Value)->Prop:=Paired λp q=>RelV p.1 q.1/\RelV p.2 q.2
noncomputable def Wq(X:Cx)(d:Pos)(keys:List (Option Expr))(a:YU)(e:List (TE×TE)):Prop:=
 ∀(b:YN)(s:Zp)(c:St)(H:Hp)(Q:List (V×V)->Hp->Prop),Inv X b c H s->Ak e c H Q->
   wpAny (model X.prog X.w) X.A (evalPairs (pairTrees keys a X.env d)) (λvs h=>∃f g,Inv X b c g h/\VV f vs/\Q f g) X.xe s
def qN:Wq X a [] [] []:=λb s c H Q I h=>pairTrees_nil_walk ⟨[],H,I,.nil,h⟩
def jD{X:Cx}{b:Pos}{k v:ZT}{f:List (Option Expr)}{vs:YU}{tk g:TE}{c:List (TE×TE)}(hk:PE X k tk)(B:PE X v g)(C:Wq X b f vs c):
 Wq X b (some k::f) (v::vs) ((tk,g)::c):=λa s d H Q I h=>
 pairTrees_cons_walk (gH (hk a s d H _ I h) λu i⟨x,j,l,m,q1⟩=>gH (B a i d j _ l q1) λD n⟨y,o,p,q,q2⟩=>gH (C a n d o _ p q2) λE F⟨r,w,z,e,A⟩=>⟨(x,y)::r,w,z,.cons ⟨m,q⟩ e,A⟩)
noncomputable def oJ(c a:List (Key×V)):List (Key×V):=a.foldl (λb d=>putK b d.1 d.2) c
theorem KV.merge:∀{a:List (Key×V)}{c:List (Key×Value)}{b:List (Key×V)}{vs:List (Key×Value)},KV a c->KV b vs->KV (oJ b a) (merged vs c):=by
 intro a c b vs r;unfold KV at r;induction r generalizing b vs with
 |nil=>intro q;exact q
 | @cons p q g i h t f=>
   intro d;have e:KV (putK b p.1 p.2) (stored vs q.1 q.2):=by have:=d.put p.1 h.2;rw[<-h.1];exact this
   exact f e
theorem oA:∀(b a:List (Key×V)),(oJ a b).length<=a.length+b.length
 |[],a=>by show a.length<=a.length+0;omega
 | p::r,a=>by have c:=oA r (putK a p.1 p.2);have d:=lO a p.1 p.2;show(oJ (putK a p.1 p.2) r).length<=_;rw[aav];omega
theorem sZ:∀{d:List (Key×V)}{g:List (Value×Value)},VV (d.map λf=>(kV f.1,f.2)) g->∃e,Carries (iC P w) g e/\KV d e
 |[],_,r=>by rw[ab0]at r;cases r;exact⟨[],aaP,.nil⟩
 | p::d,_,r=>by
   rw[aat]at r;cases r with
   | @cons a b l bs h t=>obtain⟨e,c,q⟩:=sZ (P:=P) (w:=w) t;obtain⟨j,i⟩:=b;exact⟨(p.1,i)::e,⟨rH h.1,rfl,c⟩,.cons ⟨rfl,h.2⟩ q⟩
noncomputable def V2(b:List (TE×TE)):TE:=λe H Q=>∀p,H p=none->Ak b e (upd H p (.dK [])) λf c=>c p=some (.dK [])/\∃a:List (Key×V),f=a.map (λd=>(kV d.1,d.2))/\a.length<=15/\Q (.ref p) (upd c p (.dK (oJ [] a)))
def qR{X:Cx}{i:Pos}{keys:List (Option Expr)}{b:YU}{j:List (TE×TE)}(h:Wq X i keys b j)(l:keys.all (·.isSome)=true)(N:keys.length=b.length)(O:keys≠[])
 (n:keys.length<=15):PE X (.Dict keys b i) (V2 j):=by
 intro g s M H Q I q;have y:=I.hok.fresh (aaf s.heap.objs.size);have A:=I.laid (a:=s.heap.objs.size) (o:=.dK []) (h':=s.heap.push {cls:=.type "dict",data:=.dict #[]}) (t':=s.toks) (λ_ _ q=>aan _ q) (aaf _) (rY s.heap I.big);refine wpAny_Dict_walk (knd:=iC X.prog X.w) l N O n (gH (h g _ M _ _ A (q _ y)) λR S⟨T,U,p,m,e,d,v,W,q2⟩=>?_);subst v;obtain⟨F,c,G⟩:=sZ (P:=X.prog) (w:=X.w) m;obtain⟨z,hd,J,L,dd⟩:=xq p.hok e;cases L;refine⟨F,c,dd,λr f x=>⟨.ref s.heap.objs.size,_,?_,rfl,q2⟩⟩;have B:(oJ [] d).length<=sizeLine:=by have C:=oA d [];rw[aa6]at C;rw[sizeLine_eq];omega
 have D:∃q,r.get? s.heap.objs.size=some q:=let⟨q,_,_,E,_⟩:=f;⟨q,E⟩
 exact qT p (by rw[e];exact aaP) x D (vO B hd (G.merge .nil) f)
structure M1(X:Cx)(o:ZT)(m:Str)(apos:Pos)(e:ZT)(cpos:Pos):Prop where
 base:attributeBase o m X.env (eval o X.env)=eval o X.env
 few:((backTo cpos (starEach [e] X.env)).all (λx=>!x.1)&&(backToKw cpos (keywordEach [] X.env)).all (λx=>x.1.isSome)&&decide (([e]:YU).length+([]:List Keyword).length+(if ([]:List Keyword).isEmpty then 0 else 1)<30))=true
 line:(apos.endLine==cpos.line)=true
 trees:backTo cpos (starEach [e] X.env)=[(false,eval e X.env)]
def Fv(I:Inv X l n H s)(e:Rd H a (.dK m))(h:∀p g,H p=none->Inv X l n (upd H p (.dK m)) g->Q (.ref p) g):wpAny (model X.prog X.w) A (call (.type "dict") [.ref a]) Q E s:=by obtain⟨z,hd,vs,c,dd⟩:=tX I.hok e;refine kt_call_dict hd dd (by rw[<-c.length];exact z) λj d i=>?_;refine h _ _ (I.hok.fresh (aaf _)) (I.laid (a:=s.heap.objs.size) (o:=.dK m) (t':=s.toks) (λb q f=>?_) (aaf _) (vO z (abr.mpr (aaI (aay I.big))) c d));exact(i.2 b (aay (aaq f))).trans (aan _ f)
end L2
namespace Att
open PySem PySem.W PySem.Calls PyProof.Rows
theorem qI:∀(c:List Int)(vs:Y3),WellAll P h vs (c.map WData.int)->IntsAre vs c:=by
 intro c;induction c with
 | nil=>intro vs w;rw[ab0]at w;cases w;exact .nil
 | cons n c d=>
   intro vs w;rw[aat]at w;cases w with
   | cons a b=>cases a;exact .cons _ _ (d _ b)
theorem Eu{l:OpenLaw}(C:l.most=some n){h:ZN}
 (f:l.row.toRowW.claim.pre b=true)(p:WellAll P h e b):
 ∃a vs c,e=[Value.ref a]/\b=[WData.list (c.map WData.int)]/\h.get? a=some {cls:=.type "list",data:=.seq vs.toArray}/\IntsAre vs c/\c.length<=n:=by
 have o:WShape.hasAll [] b [.list .int]=true:=(pre_splitW f).1;have s:l.pre.holds [] {args:=b}=true:=(pre_splitW f).2;obtain⟨d,r,rfl,w,x⟩:=hasAllW_cons o;obtain rfl:=hasAllW_nil x;obtain⟨D,rfl,y⟩:=hasW_list w;obtain⟨c,rfl⟩:=items_int y;have g:c.length<=n:=by
  unfold OpenLaw.pre at s;have j:(WTm.not (.lt (.lit (.int (n:Int))) (.len (.arg 0)))).holds [] {args:=[.list (c.map .int)]}=true:=by have j:=(holds_andW s).1;rw[C]at j;exact j
  have m:=condW_of j (w_not (w_lt w_lit (w_len_list (w_arg rfl))));rw[aad]at m;refine Nat.le_of_not_lt λq=>?_;have v:(n:Int)<((c.length:Nat):Int):=by omega
  first
   |(rw[aa1 v]at m;exact absurd m (by decide))
   |(simp at m;omega)
 cases p with
 | cons z A=>
   cases A;cases z with
   |list B i=>exact⟨_,_,c,rfl,rfl,B,qI c _ i,g⟩
def Dz(l:OpenLaw)(a:List WData):l.row.toRowW.claim.post a (.bool true) a=true:=
 postW_of (r:=l.row.toRowW) (X:=(true==true))
  (show WShape.has [] (.bool true) .bool=true by first|rfl|decide|simp[WShape.has,WShape.arms,WShape.armsAll])
  (show(WTm.eq .res (.lit (.bool true))).value [] {args:=a,res:=some (.bool true),after:=a}=some (.bool (true==true))from w_eq_bool (w_res rfl) w_lit) rfl
def xV{l:OpenLaw}{L:World->Heap->Prop}{d:DefRec}
 (X:l.most=some n)(D:d.params.defaults=[])
 (call:∀(w:ZH)(c b:Zp)(v y:Y1)(i:Zl)(o:Obj)(z cd g:ZI)(a:Zl)(vs:Y3)(x:List Int),Ground q e [] J w c v y b.heap->L w b.heap->b.heap.get? i=some o->o.data=.func (docDef d.name d.params d.body d.scope z cd g)->b.heap.CodeRec cd d.name->v d.name=some (.ref i)->b.heap.get? a=some {cls:=.type "list",data:=.seq vs.toArray}->IntsAre vs x->x.length<=n->b.gens=#[]->codeAny (model l.prog w) callerA (.call (.ref i) ⟨[.ref a],[]⟩) (λr s=>r=.ok (.ret (.bool true))/\OldK b.heap s.heap/\s.os=b.os/\AllBare s.gens) b):
 WalkO q e J L l.row.toRowW d [] (λf vs=>PySem.call f vs):=by
 intro w c b v y G Y i o z cd g R kV S hd A E B T F H Z p I U C W;obtain rfl:R=.none:=Dflts.none E D;obtain rfl:kV=.none:=Dflts.noKw E;obtain⟨a,vs,x,rfl,rfl,j,h,m⟩:=Eu X p C;refine enter_call (codeAny_mono (call w c b v y i o z cd g a vs x G Y S (fd_plain hd) A B j h m T) λr s M=>?_);obtain⟨rfl,O,P,Q⟩:=M;exact⟨.inl ⟨.bool true,.bool true,[],rfl,λ_=>rfl,.bool true,Dz l _,λ_=>⟨List.Pairwise.nil,λ_ N=>(nomatch N)⟩⟩,O,P,Q⟩
section
variable{prog:ZE}{w:ZH}{A:ZO}{E:ZY}{s:Zp}{K:Zs}
end
end Att
namespace L2
open PySem PySem.Spec PyProof.Rows
theorem uv:∀{vs:Y3}{a:List Int},IntsAre vs a->Vals (a.map V.int) vs
 |_,_,.nil=>.nil
 |_,_,.cons n t h=>.cons ⟨t,rfl⟩ (uv h)
noncomputable def inClass(s:Stmt)(j:Nat):Stmt:=match s with
 |.ClassDef _ _ _ body _ _ _ _ _ _ _=>body.getD j (.Pass ⟨0,0,0,0⟩)
 |_=>.Pass ⟨0,0,0,0⟩
noncomputable def eG(s:Stmt):Arguments:=match s with
 |.FunctionDef _ a _ _ _ _ _ _ _ _=>a
 |_=>{posonlyargs:=[],args:=[],vararg:=none,kwonlyargs:=[],kw_defaults:=[],kwarg:=none,defaults:=[]}
noncomputable def d_(s:Stmt):List Stmt:=match s with
 |.FunctionDef _ _ b _ _ _ _ _ _ _=>b
 |_=>[]
noncomputable def b_(s:Stmt):Scope:=match s with
 |.FunctionDef _ _ _ _ _ _ sc _ _ _=>sc
 |_=>{kind:=.function,names:=[],isGenerator:=false,isCoroutine:=false}
abbrev dU:Bp:=λ_ _ _ _ _ _=>False
abbrev E0:XK:=λ_ _ _=>False
def dR:jt dU X E0:=λ_ _ _ _ _ _ _ h=>h.elim
structure ir(K:Zs)(x qual:Str)(st:Stmt)(f:Zl)(fd:ZB):Prop where
 ex:∃(oc:ZI)(od:YE)(kV doc pm:ZI)(an:YE)(cdv ct:ZI)(osl:YV),
  fd=PySem.W.fnOf x qual (eG st) (d_ st) (b_ st) .none kV doc pm an cdv ct/\K.lookup f=some ⟨oc,od,.func fd,osl⟩/\PySem.W.codeIn K cdv qual=true
 kp:PySem.W.keepIn K (.ref f)=true
def ir.ok{P:ZE}{w:ZH}{K:Zs}{C:Y1}{B:ZN}{x b:Str}{e:Stmt}{f:Zl}{m:ZB}{N j:Y2}{k:Nat}{l:Sp}(F:ir K x b e f m)(S:du N j (b_ e))(len:∀vs H Q E,l vs H Q E->vs.length=j.length)
 (d:∀(c:ZI)(A:ZO)(a:List Env)(s:Zp)(H:Hp)(vs:List V)(Q:VK)(E:XK),eZ k (A.deeper (envOfC b (b_ e) s.heap.objs.size f c))->l vs H Q E->∃t,Dq (jr dU P w K C B N b (b_ e) f c A a s H E).nox (d_ e) t/\t {nx:=λ_ n=>Q .non n,rt:=Q} (start N vs) H):dm P w K C B dU (k+1) f m j l:=by
 obtain⟨oc,od,kV,p,y,an,c,z,r,rfl,v,i⟩:=F.ex;refine Ng v i S len λA a s H vs Q E o g=>?_;obtain⟨t,h,q⟩:=d c A a s H vs Q E o g;exact⟨t,h.nox,q⟩
def ir.binds{K:Zs}{x a:Str}{d:Stmt}{f:Zl}{j:ZB}{ps:Y2}(F:ir K x a d f j)
 (h:∀(kV b e:ZI)(an:YE)(c g:ZI)(i:Y3),i.length=ps.length->bindArgs (PySem.W.fnOf x a (eG d) (d_ d) (b_ d) .none kV b e an c g) ⟨i,[]⟩=pure (ps.zip i)):Binds K j ps []:=by
 obtain⟨oc,od,kV,b,e,an,c,g,l,rfl,n,m⟩:=F.ex;exact .all (h kV b e an c g)
def j0{K:Zs}{x a:Str}{st:Stmt}{f:Zl}{oc:ZI}{od an:YE}{e:YV}{kV d g b h:ZI}(l:K.lookup f=some ⟨oc,od,.func (PySem.W.fnOf x a (eG st) (d_ st) (b_ st) .none kV d g an b h),e⟩)
 (c:PySem.W.codeIn K b a=true)(k:PySem.W.keepIn K (.ref f)=true):ir K x a st f (PySem.W.fnOf x a (eG st) (d_ st) (b_ st) .none kV d g an b h):=⟨⟨oc,od,kV,d,g,an,b,h,e,rfl,l,c⟩,k⟩
def pO(a:eZ k A):A.units+1<cLine:=abp (Nat.add_le_add_left (by decide:1<=64) _) a.units
def nW(h:n<=1000):n<sizeLine:=abp h (by decide)
def pv(i:Nat)(c:X.N[i]?=some x:=by rfl)(d:Rv X.env.scope x:=by first|exact Or.inl rfl|exact Or.inr (.inl rfl)|exact Or.inr (.inr rfl))(hd:(x==("__debug__":Str))=false:=by decide)
 (b:(x==("__classdict__":Str))=false:=by decide):PE X (.Name x a) (oY i):=Qf c d hd b
def jT{c A B:Prop}[Decidable c](a:c->A)(b:¬c->B):if c then A else B:=by
 by_cases h:c
 ·rw[aac h];exact a h
 ·rw[aab h];exact b h
def di(H a:Hp):Prop:=∀b o,H b=some o->a b=some o
def di.refl(H:Hp):di H H:=λ_ _ h=>h
def di.trans(a:di H d)(b:di d e):di H e:=λc o h=>b c o (a c o h)
theorem di.free(e:di H a)(h:a l=Option.none):H l=Option.none:=by
 cases q:H l with
 |none=>rfl
 | some o=>rw[e l o q]at h;cases h
def di.seq{K:Zs}{H b:Hp}{a:Zl}{xs:List V}(e:di H b)(h:fj K H a xs):fj K b a xs:=by
 rcases h with(h|⟨o,h⟩)|h
 ·exact .inl (.inl (e _ _ h))
 ·exact .inl (.inr ⟨o,e _ _ h⟩)
 ·exact .inr h
def Ex:jX X (.builtin "len") (λc H Q=>∃a b,c=[V.ref a]/\H a=some (.dK b)/\Q (.int b.length) H):=by intro d s j H c l Q I r h;obtain⟨a,b,rfl,f,q⟩:=h;obtain⟨u,rfl,g⟩:=vals1 r;cases g;exact Uj I (.inl f) λt i e=>⟨.int b.length,H,e,⟨t,rfl⟩,q⟩
section
variable{κ:Type}[DecidableEq κ]
def JZ{a:List (κ×V)}{k:κ}{v:V}(h:jq a k=some v):k∈a.map (·.1):=by
 have q:(a.any λb=>decide (b.1=k))=true:=by
  rw [pQ,h]
  all_goals rfl
 obtain ⟨p,c,e⟩:=abG.mp q;exact aap.mpr ⟨p,c,acj e⟩
theorem Cu:∀{l:List κ}{k:κ},l.Nodup->¬k∈l->(l++[k]).Nodup
 |[],k,_,_=>by simp
 | a::r,k,h,hk=>by
   obtain⟨b,c⟩:=aaD.mp h;show(a::(r++[k])).Nodup;refine aaD.mpr ⟨λm=>?_,Cu c λm=>hk (aai.mpr (Or.inr m))⟩;rcases aak.mp m with q|q
   ·exact b q
   ·exact hk (aai.mpr (Or.inl (aam.mp q).symm))
end
def oX(d:ZU)(h:∀y∈d.names,y.2=.free->∃c,env.cells.lookup y.1=some c):
 ∃f,closureFor d env=pure f/\(∀x c,f.lookup x=some c->env.cells.lookup x=some c)/\∀x,(x,NameKind.free)∈d.names->∃c,f.lookup x=some c:=by
 have go:∀(a:List (Str×NameKind))(b:YR),(∀y∈a,y.2=.free->∃c,env.cells.lookup y.1=some c)->(∀x c,b.lookup x=some c->env.cells.lookup x=some c)->
  ∃f,(forIn a b λx cs=>(match x with
    |(name,kind)=>if kind==NameKind.free then(do let c<-cellOf env name;pure (ForInStep.yield ((name,c)::cs)))else pure (ForInStep.yield cs):Sem (ForInStep (List (Str×Addr)))))=pure f/\
    (∀x c,f.lookup x=some c->env.cells.lookup x=some c)/\(∀x,(x,NameKind.free)∈a\/(∃c,b.lookup x=some c)->∃c,f.lookup x=some c):=by
  intro a;induction a with
  |nil=>intro b _ o;exact⟨b,rfl,o,λx z=>z.elim (λq=>nomatch q) id⟩
  | cons y r A=>
    intro b v o;obtain⟨n,k⟩:=y;by_cases hk:k=.free
    ·subst hk;obtain⟨c,w⟩:=v (n,.free) aal rfl;obtain⟨f,e,j,l⟩:=A ((n,c)::b) (λz p=>v z (aah _ p)) (λx g i=>by
      rw[abh]at i;by_cases q:x==n
      ·rw[q]at i;cases i;rw[abb.mp q];exact w
      ·rw[ab1]at q;rw[q]at i;exact o x g i);refine⟨f,?_,j,λx z=>l x ?_⟩
     ·rw[ack];simp only[ab2,if_true,cellOf,w];exact e
     ·have s:∀x,(∃g,b.lookup x=some g)->∃g,((n,c)::b).lookup x=some g:=λx⟨g,z⟩=>by
       rw[abh];by_cases q:x==n
       ·rw[q];exact⟨_,rfl⟩
       ·rw[ab1]at q;rw[q];exact⟨g,z⟩
      rcases z with z|z
      ·rcases aai.mp z with z|z
       ·cases z;exact .inr ⟨c,by rw[abh,ab2]⟩
       ·exact .inl z
      ·exact .inr (s x z)
    ·have B:(k==NameKind.free)=false:=by simpa using hk
     obtain⟨f,e,j,l⟩:=A b (λz p=>v z (aah _ p)) o;refine⟨f,?_,j,λx z=>l x ?_⟩
     ·rw[ack];simp only[B,acN,if_false];exact e
     ·rcases z with z|z
      ·rcases aai.mp z with z|z
       ·cases z;exact absurd rfl hk
       ·exact .inl z
      ·exact .inr z
 obtain⟨f,e,j,l⟩:=go d.names [] h (λx c z=>by simp at z);refine⟨f,?_,j,λx z=>l x (.inl z)⟩;unfold closureFor;exact(aaB (λ(m:Sem (List (Str×Addr)))=>m>>=λcs=>pure cs) e).trans rfl
noncomputable def eV(X:Cx)(scope:ZU)(N':Y2)(cl:YR)(C:Zl)(s₀:Zp)(H₀:Hp)(ex:YI):Cx where
 prog:=X.prog
 w:=X.w
 K:=X.K
 mg:=X.mg
 base:=X.base
 A:=X.A
 N:=N'
 s₀:=s₀
 H₀:=H₀
 env:=compEnvC scope cl C X.env
 outer:=X.stack
 stack:=X.stack
 ex:=ex
 fn:=λ_=>false
 calm:=X.calm
 pn:=[]
 xe:=λ_ _=>False
noncomputable def jU(k:Nat)(a:List Nat)(b:St):St:=List.replicate k none++a.map λj=>(b[j]?).join
def Bb(k:Nat)(a:List Nat)(b:St):(jU k a b).length=k+a.length:=by simp[jU]
structure dX(X:Cx)(scope:ZU)(own:Y2)(js:List Nat)(N':Y2):Prop where
 kind:scope.kind=.function
 nocell:∀y∈scope.names,y.2≠.cell
 names:∀y∈scope.names,y.2=.local->scope.names.lookup y.1=some .local
 free:∀y∈scope.names,y.2=.free->X.env.kindOf y.1=some .cell\/X.env.kindOf y.1=some .free
 nm:N'=own++js.map λj=>X.N.getD j Str.empty
 fr:∀j∈js,j<X.N.length/\(X.N.getD j Str.empty,NameKind.free)∈scope.names/\∀k,(X.N.getD j Str.empty,k)∈scope.names->k=.free
theorem qJ{a:List (Str×NameKind)}(h:(x,NameKind.free)∈a)(u:∀k,(x,k)∈a->k=.free):a.lookup x=some .free:=by
 induction a with
 |nil=>cases h
 | cons y r b=>
   obtain⟨n,k⟩:=y;rw[abh];by_cases q:x==n
   ·rw[q];have e:x=n:=abb.mp q;subst e;rw[u k aal]
   ·rw[ab1]at q;rw[q];refine b ?_ λk hk=>u k (aah _ hk);rcases aai.mp h with z|z
    ·cases z;rw[ab2]at q;cases q
    ·exact z
def qy(h:(x,k)∈(relabel a env).names)(hk:k=.cell\/k=.free)(d:∀y∈a.names,y.2≠.cell):(x,NameKind.free)∈a.names:=by
 unfold relabel at h;obtain⟨⟨n,c⟩,b,e⟩:=aap.mp h;dsimp only at e;by_cases q:(c==NameKind.free&&env.scope.kind==.function&&env.kindOf n==some .cell)=true
 ·rw[aac q]at e;cases e;rw[aaK,aaK]at q;have:c=.free:=by simpa using q.1.1
  rw[<-this];exact b
 ·rw[aab q]at e;cases e;rcases hk with z|z
  ·exact absurd z (d _ b)
  ·rw[<-z];exact b
theorem jV{env:Env}{x:Str}:∀{a:List (Str×NameKind)},a.lookup x=some .free->
 (a.map λ(n,k)=>if(k==NameKind.free&&env.scope.kind==.function&&env.kindOf n==some .cell)then(n,NameKind.cell)else(n,k)).lookup x=some .cell\/
 (a.map λ(n,k)=>if(k==NameKind.free&&env.scope.kind==.function&&env.kindOf n==some .cell)then(n,NameKind.cell)else(n,k)).lookup x=some .free
 |[],h=>by simp at h
 | (n,k)::r,h=>by
   have b:=@jV env x r;rw[abh]at h;rw[aat];dsimp only;by_cases q:x==n
   ·rw[q]at h;cases h;by_cases c:(NameKind.free==NameKind.free&&env.scope.kind==.function&&env.kindOf n==some .cell)=true
    ·rw[aac c,abh,q];exact .inl rfl
    ·rw[aab c,abh,q];exact .inr rfl
   ·rw[ab1]at q;rw[q]at h;by_cases c:(k==NameKind.free&&env.scope.kind==.function&&env.kindOf n==some .cell)=true
    ·rw[aac c,abh,q];exact b h
    ·rw[aab c,abh,q];exact b h
def Inv.comp{X:Cx}{H:Hp}{s:Zp}{scope:ZU}{own:Y2}{cl:YR}{h₁:ZN}(S:dX X scope own js N')(I:Inv X eH σ H s)
 (hc1:∀x c,cl.lookup x=some c->X.env.cells.lookup x=some c)(hc2:∀x,(x,NameKind.free)∈scope.names->∃c,cl.lookup x=some c)(hC:s.heap.objs.size<=C)(hns:h₁.Ns C m)(hk:∀b o,s.heap.get? b=some o->h₁.get? b=some o)
 (hf:∀b∈fp,km X eH H b/\b<s.heap.objs.size)(hHC:H C=none)(hfree:∀b o,s.heap.get? b=some o->b≠C):
 Inv (eV X scope N' cl C s H fp) [] (jU own.length js σ) H {s with heap:=h₁,toks:=tk}:=by
 have ltx:∀b o,X.s₀.heap.get? b=some o->b∉X.ex->b∉fp:=λb o e hx hb=>by
  rcases(hf b hb).1.2.2.2.1 with z|z
  ·exact hx z
  ·exact absurd (aaF (aaq e) z) (abu _)
 refine⟨⟨I.ok.mod,S.kind,I.ok.glob,I.ok.blt,hC,λx y c h1 h2=>I.ok.inj x y c (hc1 x c h1) (hc1 y c h2),λx hx=>?_,λx c z=>(nomatch z),I.ok.hd,I.ok.frames,.inl rfl,λb hb=>⟨aay (aaF (hf b hb).2 hC),λx c e=>(hf b hb).1.2.2.2.2.1 x c (hc1 x c e)⟩,I.bs,aag I.ok.bsz I.sz,λb o e=>ltx b o (I.ok.bs b o e).1 (I.ok.noex b o e),λb hb z=>?_,I.stack,I.stkFree⟩,
  rfl,I.bare,Un.kept hk,⟨m,hns,λi x v e1 e2 e3=>?_⟩,λx c e=>?_,hHC,λx c e=>I.freeC x c (hc1 x c e),λp hp=>absurd (show p∈([]:YN)from hp) (by simp),I.hok.kept hk,?_⟩
 ·have hx':(relabel scope X.env).names.lookup x=some .cell\/(relabel scope X.env).names.lookup x=some .free:=hx;rcases hx' with z|z
  ·exact hc2 x (qy (abv z) (.inl rfl) S.nocell)
  ·exact hc2 x (qy (abv z) (.inr rfl) S.nocell)
 ·obtain⟨_,f1,f2,_⟩:=(hf b hb).1;rcases aai.mp (I.stkSub b z)with q|q
  ·exact f1 q
  ·exact f2 q
 ·
  unfold jU at e2;by_cases hi:i<own.length
  ·rw[ac3 (by simpa using hi),List.getElem?_replicate]at e2;split at e2<;>cases e2
  ·rw[abY (by simpa using hi),acg,aao]at e2;cases ej:js[i-own.length]? with
   |none=>rw[ej]at e2;cases e2
   | some j=>
     rw[ej]at e2;have e2':(σ[j]?).join=some v:=by simpa using e2
     have hσ:σ[j]?=some (some v):=by
      cases q:σ[j]? with
      |none=>rw[q]at e2';cases e2'
      |some o=>rw[q]at e2';exact aaB some e2'
     have hj:=S.fr j (aaj ej);have hx:x=X.N.getD j Str.empty:=by have e1':N'[i]?=some x:=e1;rw[S.nm,abY (by omega),aao,ej]at e1';exact(aaW e1').symm
     have hN:X.N[j]?=some x:=by rw[hx,acl,aaz hj.1];rfl
     have hfr:scope.names.lookup x=some .free:=by rw[hx];exact qJ hj.2.1 hj.2.2
     have hkx:=S.free (x,.free) (by rw[hx];exact hj.2.1) rfl;have hvis:Rv X.env.scope x:=hkx.elim (λz=>.inr (.inl z)) λz=>.inr (.inr z);obtain⟨mX,hnX,hlX⟩:=I.loc;obtain⟨u,r,l⟩:=hlX j x v hN hσ hvis;refine⟨u,r,.inr ⟨jV hfr,?_⟩⟩;rcases l with⟨z,_⟩|⟨_,c,hc,hcell⟩
     ·rcases hkx with q|q
      ·have:=q.symm.trans z;cases this
      ·have:=q.symm.trans z;cases this
     ·obtain⟨c',hc'⟩:=hc2 x (by rw[hx];exact hj.2.1);have:c'=c:=aaW ((hc1 x c' hc').symm.trans hc);subst this;obtain⟨o,ho,hd⟩:=hcell;exact⟨c',hc',o,hk _ _ ho,hd⟩
 ·obtain⟨v,o,ho,hd⟩:=I.cell x c (hc1 x c e);exact⟨v,o,hk _ _ ho,hd⟩
 ·rw[Bb];show _=N'.length;rw[S.nm];simp
noncomputable def pH(Y:Cx)(d:YU)(t:TT):Prop:=
 ∀(a:YN)(s:Zp)(b:St)(H:Hp)(Q:Bool->Hp->Prop),Inv Y a b H s->t b H Q->
   wpAny (model Y.prog Y.w) Y.A (forIn d true λc r=>if r=true then do let ok<-isTrue c Y.env (eval c Y.env);pure (ForInStep.yield ok)else pure (ForInStep.yield r)) (TP Y a b Q) Y.xe s
def qm:TT:=λ_ H Q=>Q true H
def gF:pH Y [] qm:=λ_ _ _ H _ I h=>wpAny_tests_nil ⟨H,I,h⟩
def mC(h:PT Y c t):pH Y [c] t:=λa s b H Q I d=>wpAny_tests_one (h a s b H Q I d)
abbrev iG(a:Y3)(k:Nat):Obj:={cls:=.type "list",data:=.seq a.toArray k}
noncomputable def rO(J:It)(g:TG)(l:TT)(n:TE)(F:List V->Hp->Prop)(W:Nat->Nat->List V->St->Hp->Prop):Prop:=
 ∀i m ys e H,W i m ys e H->(J.stop i H/\F ys H)\/(J.go i H/\ys.length<sizeLine/\∀x f,J.yld i H x f->g x e f λa h=>l a h λb d=>if b=true then n a d λy j=>∃c,c<m/\W (i+1) c (ys++[y]) a j else∃c,c<m/\W (i+1) c ys a d)
noncomputable def zY(J:It)(g:TG)(l:TT)(n:TE)(F:List V->St->Hp->Prop)(W:Nat->Nat->List V->St->Hp->Prop):Prop:=
 ∀i m ys d H,W i m ys d H->(J.stop i H/\F ys d H)\/(J.go i H/\ys.length<sizeLine/\∀x f,J.yld i H x f->g x d f λa h=>l a h λb e=>if b=true then n a e λy j=>∃c,c<m/\W (i+1) c (ys++[y]) a j else∃c,c<m/\W (i+1) c ys a e)
noncomputable def Hh(c:ZT)(j:Nat)(b a:ZI)(env:Env)(g e:ZT)(f:YU)(B:Sem Fin->Sem Fin):Prop:=
 (∀A:Around,A.under (.compLoop c j b a env)=A)/\∀d w,(model d w).den (.compLoop c j b a env)=((do
  standAt e.pos
  match<-pyNext b with
  |none=>pure (.done .next)
  | some v=>
    letOwnedTupleGo g b v
    assign g env v
    let mut ok:=true
    for c in f do
     if ok then ok<-isTrue c env (eval c env)
    if ok then B (again (.compLoop c j b a env))else again (.compLoop c j b a env):Sem Fin)).onRaise (λx=>do noteFrame x env;theTreesLotGoes x)
def GZ{α:Type}{Y:Cx}{c:ZT}{j:Nat}{it:Zl}{acc:ZI}{tg iter:ZT}{ifs:YU}{B:Sem Fin->Sem Fin}{fp:YI}{tn:Nat->Heap->Prop}{J:It}{g:TG}{tt:TT}{R:YO}(U:α->List (Addr×Obj))
 (e:Hh c j (.ref it) acc Y.env tg iter ifs B)(T:Turn Y.prog Y.w Y.K tg J fp it tn)(hg:PG Y tg g)(hc:pH Y ifs tt)(p:Y.calm=true)(hx:∀v s,¬Y.xe v s)
 (M:∀a,∀b∈fp,∀H,H b=none->km Y (U a) H b)(W P:Nat->Nat->α->St->Hp->Prop)(S Z:α->Prop)
 (turn:∀i m a q H,S a->W i m a q H->(J.stop i H/\∀s,Inv Y (U a) q H s->R (.ok .next) s)\/(J.go i H/\Z a/\∀x H1,J.yld i H x H1->g x q H1 λD H2=>tt D H2 λb N=>if b=true then P i m a D N else∃y,y<m/\W (i+1) y a D N))
 (body:∀i m a q H h s,S a->Z a->P i m a q H->(∀b∈fp,∃o,h.get? b=some o)->Inv Y (U a++lH fp h) q H s->∀(k:Sem Fin)(Q:Fin->Shared->Prop)(E:ZY),(∀X,(∃y,y<m/\∃a' l O,Inv Y (U a'++lH fp h) l O X/\S a'/\W (i+1) y a' l O)->wpAny (model Y.prog Y.w) Y.A k Q E X)->wpAny (model Y.prog Y.w) Y.A (B k) Q E s)
 {s:Zp}{q:St}{H:Hp}{m:Nat}{a:α}(I:Inv Y (U a) q H s)(st:tn 0 s.heap)(fr:∀b∈fp,H b=none)(s0:S a)(w0:W 0 m a q H):
 codeAny (model Y.prog Y.w) Y.A (.compLoop c j (.ref it) acc Y.env) R s:=by
 refine codeAny_loop rfl (λn X=>∃i a l O,Inv Y (U a) l O X/\tn i X.heap/\(∀b∈fp,O b=none)/\S a/\W i n a l O) (λn s3 hI=>?_) m ⟨0,a,q,H,I,st,fr,s0,w0⟩;obtain⟨i,a,C,N,I3,aa,ab,L,w3⟩:=hI;rw[e.1,e.2];refine wpAny_noted ?_;refine aaa (abl (aaa ?_));rcases turn i n a C N L w3 with⟨ac,qn⟩|⟨go,za,step⟩
 ·refine aaG (T.done Y rfl rfl rfl p i _ s3 C N (λ_ _=>False) I3 (λb f=>M a b f _ (ab b f)) aa ac) (λr s4⟨hr,I4⟩=>?_) (λ_ _ z=>z.elim);subst hr;exact aae (qn s4 I4)
 ·refine aaG (T.item Y rfl rfl rfl p i _ s3 C N (λ_ _=>False) I3 (λb f=>M a b f _ (ab b f)) aa go) (λr s4⟨u,hr,h4⟩=>?_) (λ_ _ z=>z.elim);subst hr;refine aaa (aaG h4 (λ_ s5⟨x,H5,I5,r5,y5,w,ad⟩=>?_) (λ_ _ z=>z.elim));refine aaa (aaG (hg _ s5 C H5 x u _ (I5.pinned (λb f=>M a b f _ (ad b f)) (T.obj _ _ w)) r5 (step x H5 y5)) (λ_ s6⟨F,H6,I6,q6⟩=>?_) (λv s z=>(hx v s z).elim));refine aaa (aaG (hc _ s6 F H6 _ I6 q6) (λok s7⟨H7,I7,q7⟩=>?_) (λv s z=>(hx v s z).elim));have on:∀{pl:YN}{s8:Zp}{A:St}{H8:Hp},Inv Y (pl++lH fp s5.heap) A H8 s8->Inv Y pl A H8 s8/\tn (i+1) s8.heap/\∀b∈fp,H8 b=none:=λG=>
   ⟨G.unpinned,T.keep _ _ _ w λb f o e=>(G.pin (b,o) (aaE _ (aaE _ (mO f e)))).1,λb f=>by
    obtain⟨o,e,d⟩:=T.obj _ _ w b f;exact(G.pin (b,o) (aaE _ (aaE _ (mO f e)))).2.1⟩;cases ok with
  | false=>rw[aab aaH]at q7;obtain⟨y,hm,w7⟩:=q7;exact aae ⟨rfl,y,hm,i+1,a,F,H7,(on I7).1,(on I7).2.1,(on I7).2.2,L,w7⟩
  | true=>rw[aac rfl]at q7;exact body i n a F H7 s5.heap s7 L za q7 (λb f=>(T.obj _ _ w b f).imp λ_ z=>z.1) I7 _ _ _ λs8⟨y,hm,a',A,H8,G,w8⟩=>aae ⟨rfl,y,hm,i+1,a',A,H8,(on G).1,(on G).2.1,(on G).2.2,w8⟩
def uD{a:ZE}{w:ZH}{A:ZO}{R:YO}{s:Zp}{c:ZT}{j:Nat}{e b:ZI}{env:Env}{g:Comprehension}(m:(clausesOf c)[j]?=some g)(n:(g.is_async !=0)=false)
 (l:codeAny (model a w) A (.compLoop c j e b env) R s)(h:wpAny (model a w) A (pyIter e) (λd f=>codeAny (model a w) A (.compLoop c j d b env) R f) (notedBy (model a w) A env λx f=>R (.error x) f) s)
 (hd:A.under (.compStart c j e b env)=A/\(model a w).den (.compStart c j e b env)=(compStart c j e b env).onRaise (λx=>do noteFrame x env;standAt theWindowsPlace):=by exact⟨rfl,rfl⟩):codeAny (model a w) A (.compStart c j e b env) R s:=by
 refine codeAny_of_tree ?_;rw[hd.1,hd.2];refine wpAny_notedAt ?_;unfold compStart;rw[m];simp only[Option.elim,n,acN,if_false];show wpAny _ _ (ask>>=_) _ _ s;refine aaa (wpAny_askSetting (wpAny_ite ?_));split
 ·first
   |exact aaa (aae (aae (And.intro rfl l)))
   |exact aae (And.intro rfl l)
 ·first
   |exact aaa (abm (aaa (abl (aaa (aaG h (λd f i=>aae (And.intro rfl i)) λ_ _ x=>x)))))
   |(refine aaa (abm ?_);show wpAny _ _ (standAt g.iter.pos>>=_) _ _ s;exact aaa (abl (aaa (aaG h (λd f i=>aae (And.intro rfl i)) λ_ _ x=>x))))
noncomputable def Jf(Y:Cx)(b:YN)(a:Zl):Prop:=a≠Y.env.locals/\a∉Y.fs/\(a∈Y.ex\/Y.s₀.heap.objs.size<=a)/\(∀x c,Y.env.cells.lookup x=some c->c≠a)/\∀p∈Y.pn++b,p.1≠a
def Zj(Y:Cx)(c:YN)(a b:Zl):Prop:=(∀H:Hp,H b=none->km Y c H b)/\b≠a
def Im{Y:Cx}{ps:YN}{a:Zl}{c:Y3}{k:Nat}{j:St}{H:Hp}{s:Zp}{y:ZI}{E:ZY}{Q:ZY}(A:c.length<=sizeLine)(d:Jf Y ps a)(I:Inv Y ((a,iG c k)::ps) j H s)
 (h:∀v l r,Inv Y ((a,iG (c++[y]) r)::ps) j H l->Q v l):wpAny (model Y.prog Y.w) Y.A (call (.builtin "list.append") [.ref a,y]) Q E s:=by
 obtain⟨i,m,B,C,D⟩:=I.pin (a,iG c k) (aaE _ aal);refine call_meets aa3 ⟨_,i,rfl⟩ PySem.F.entry_list_append (PySem.F.args_list_append_2 _ _) (PySem.list_append a c.toArray k y (by rw[aau];exact A)) ⟨i,?_⟩;have q:=PySem.IsL.update i (λz=>z.push y);have w:Inv Y ps j H s:=I.pins_of λp f=>I.pin p (aaE _ (aah _ f));have g:=w.turned (t':=s.toks) (it:=a) (h':=s.heap.update a (Obj.mapSeq λz=>z.push y)) (λb o n e=>(Heap.get?_update_other s.heap _ (aaI n)).trans e) m d.1 d.2.2.1 d.2.2.2.1 d.2.2.2.2;have x:(c.toArray.push y)=(c++[y]).toArray:=by simp
 rw[x]at q;exact h _ _ _ (g.pins_of λp f=>by
  rcases aai.mp f with rfl|f
  ·exact⟨q,m,d.1,d.2.1,λv z=>by cases z⟩
  ·exact g.pin p (aaE _ f))
def MJ{Y:Cx}{ps:YN}{f O:Zl}{fp:YI}{tn:Nat->Heap->Prop}{J:It}{g:TG}{tt:TT}{P:TE}{F:List V->St->Hp->Prop}{c B S C:ZT}{j:Nat}{D:YU}{R:YO}
 (W:Nat->Nat->List V->St->Hp->Prop)(G:zY J g tt P F W)(T:Turn Y.prog Y.w Y.K S J fp O tn)(e:Hh c j (.ref O) (.ref f) Y.env S C D (λk=>(do let _<-call (.builtin "list.append") [.ref f,<-eval B Y.env])>>=λ_=>k))
 (hg:PG Y S g)(hc:pH Y D tt)(he:PE Y B P)(n:Y.calm=true)(hx:∀v s,¬Y.xe v s)(o:∀b∈fp,Zj Y ps f b)(d:Jf Y ps f)
 (hR:∀Z A H' ys us k,Inv Y ((f,iG us k)::ps) A H' Z->Vals ys us->F ys A H'->R (.ok .next) Z)
 {s:Zp}{l:St}{H:Hp}{m:Nat}{r:List V}{x:Y3}{k0:Nat}(U:Vals r x)(I:Inv Y ((f,iG x k0)::ps) l H s)(st:tn 0 s.heap)(fr:∀b∈fp,H b=none)(w0:W 0 m r l H):
 codeAny (model Y.prog Y.w) Y.A (.compLoop c j (.ref O) (.ref f) Y.env) R s:=by
 refine GZ (α:=List V×List Value×Nat) (λa=>(f,iG a.2.1 a.2.2)::ps) e T hg hc n hx (λa b X H hn=>?_) (λi m a l H=>W i m a.1 l H) (λi m a l H=>P l H λy H4=>∃M,M<m/\W (i+1) M (a.1++[y]) l H4)
  (λa=>Vals a.1 a.2.1) (λa=>a.1.length<sizeLine) (λi m a l H L w=>?_) (λi m a l H h s L hz q ho I k Q E z=>?_) (a:=(r,x,k0)) I st fr U w0
 ·obtain⟨f0,f1,f2,f3,f4,f5⟩:=(o b X).1 H hn;refine⟨f0,f1,f2,f3,f4,λp N=>?_⟩;rcases aak.mp N with z|z
  ·exact f5 p (aaY _ z)
  ·rcases aai.mp z with rfl|z
   ·exact aaI (o b X).2
   ·exact f5 p (aaE _ z)
 ·exact(G i m a.1 l H w).imp (λz=>⟨z.1,λs I=>hR s l H _ _ _ I L z.2⟩) id
 ·refine aaa (aaa (aaG (he _ s l H _ I q) (λy s8⟨yv,H8,I8,r8,M,hm,w8⟩=>?_) (λv s z=>(hx v s z).elim)));refine aaa (Im (ps:=ps++lH fp h) (by have:=L.length;omega) ⟨d.1,d.2.1,d.2.2.1,d.2.2.2.1,λp N=>?_⟩ I8 λv s9 k9 I9=>aae (z s9 ⟨M,hm,(a.1++[yv],a.2.1++[y],k9),l,H8,I9,L.append (.cons r8 .nil),w8⟩));rcases aak.mp N with z|z
  ·exact d.2.2.2.2 p (aaY _ z)
  ·rcases aak.mp z with z|z
   ·exact d.2.2.2.2 p (aaE _ z)
   ·exact(o _ (qd z).1).2
noncomputable def yG(X:Cx)(a:ZU)(h:Y2)(fp:YI)(p:Nat->Heap->Prop)(q:Zl)(c:ZT)(W:Nat->Nat->List V->St->Hp->Prop)(F:List V->Hp->Prop)(g:YR)(d:Zp)(e:Hp):Prop:=
 ∀(C f:Zl)(R:YO),(∀b∈fp,Zj (eV X a h g C d e fp) [] f b)->Jf (eV X a h g C d e fp) [] f->
   (∀j i l ys n k,Inv (eV X a h g C d e fp) [(f,iG n k)] i l j->Vals ys n->F ys l->R (.ok .next) j)->
   ∀s o H m,Inv (eV X a h g C d e fp) [(f,iG [] 0)] o H s->p 0 s.heap->(∀b∈fp,H b=none)->W 0 m [] o H->
     codeAny (model X.prog X.w) X.A (.compLoop c 0 (.ref q) (.ref f) (compEnvC a g C X.env)) R s
def uR{X:Cx}{scope:ZU}{own:Y2}{js:List Nat}{N':Y2}{h1:ZN}{eH:YN}{σ:St}{H:Hp}{s:Zp}{it:Zl}{fp:YI}{tn:Nat->Heap->Prop}{J:It}{tg:ZT}{cl:YR}{Q:Env->Shared->Prop}{E:ZY}
 (S:dX X scope own js N')(I:Inv X eH σ H s)(k:∀b o,s.heap.get? b=some o->h1.get? b=some o)(le:s.heap.objs.size<=h1.objs.size)
 (hc1:∀x c,cl.lookup x=some c->X.env.cells.lookup x=some c)(hc2:∀x,(x,NameKind.free)∈scope.names->∃c,cl.lookup x=some c)(T:Turn X.prog X.w X.K tg J fp it tn)(st:tn 0 s.heap)(hf:∀b∈fp,km X eH H b)
 (h:∀e s',{e with scope:=relabel scope X.env}=compEnvC scope cl h1.objs.size X.env->e.locals=h1.objs.size->(∀b o,h1.get? b=some o->s'.heap.get? b=some o)->Inv (eV X scope N' cl h1.objs.size s H fp) [] (jU own.length js σ) H s'->tn 0 s'.heap->(∀b∈fp,b<s.heap.objs.size/\∀H':Hp,H' b=none->km (eV X scope N' cl h1.objs.size s H fp) [] H' b)->Q e s'):
 wpAny (model X.prog X.w) X.A (newFunctionEnv scope X.env.globals cl [] X.env.qual none .none (some X.env)) Q E {s with heap:=h1}:=by
 refine wpAny_newFunctionEnv S.nocell (by intro y hy;simp at hy) (λh₂ hns hsb=>?_) S.kind;dsimp only at hns hsb|-;have ne:∀b o,h1.get? b=some o->b≠h1.objs.size:=λb o e=>aay (aaq e);have up:∀b o,h1.get? b=some o->h₂.get? b=some o:=λb o e=>hsb.extBut b o (ne b o e) (aan _ e);have lt:∀b∈fp,b<s.heap.objs.size:=λb hb=>let⟨o,e,_⟩:=T.obj _ _ st b hb;aaq e
 refine h _ _ rfl rfl up (Inv.comp S I hc1 hc2 le hns (λb o e=>up b o (k b o e)) (λb hb=>⟨hf b hb,lt b hb⟩) (I.hok.fresh le) λb o e=>ne b o (k b o e)) (T.keep _ _ _ st λb hb o e=>up b o (k b o e)) λb hb=>⟨lt b hb,λH' hn=>?_⟩;obtain⟨_,_,f2,f3,f4,_⟩:=hf b hb;refine⟨hn,aay (aaF (lt b hb) le),λz=>?_,.inl hb,λx c e=>f4 x c (hc1 x c e),λp hp=>absurd (show p∈([]:YN)from hp) (by simp)⟩;rcases aai.mp (I.stkSub b z)with q|q
 ·exact(hf b hb).2.1 q
 ·exact f2 q
noncomputable def NP(d:TI)(g:TG)(e:TT)(f:TE)(k:Nat)(h:List Nat):TE:=λa H Q=>d a H λJ c=>∃W:Nat->Nat->List V->St->Hp->Prop,(∃m,W 0 m [] (jU k h a) c)/\
 rO J g e f (λys b=>ys.length<=sizeLine/\∀p,b p=none->Q (.ref p) (upd b p (.lst ys))) W
section
variable{X:Cx}{scope:ZU}{own:Y2}{js:List Nat}{N':Y2}{wi:TI}{g:TG}{tt:TT}{te:TE}{elt tg iter:ZT}{ifs:YU}{rest:List Comprehension}{pos:Pos}
def uI{l:Zl}{fp:YI}{n:Nat->Heap->Prop}{J:It}{F:List V->Hp->Prop}{W:Nat->Nat->List V->St->Hp->Prop}{e:YR}{c:Zp}{d:Hp}(f:X.calm=true)(w:∀e C a b j,PG (eV X scope N' e C a b j) tg g)(x:∀e C a b j,pH (eV X scope N' e C a b j) ifs tt)(y:∀C,PE (eV X scope N' e C c d fp) elt te)
 (T:Turn X.prog X.w X.K tg J fp l n)(h:rO J g tt te F W):yG X scope N' fp n l (.ListComp elt [⟨tg,iter,ifs,0⟩] scope pos) W F e c d:=λC o R i p q s A H m I r fr v=>
 MJ (Y:=eV X scope N' e C c d fp) (F:=λys _ H=>F ys H) W h T ⟨λ_=>rfl,λ_ _=>rfl⟩ (w _ _ _ _ _) (x _ _ _ _ _) (y _) f (λ_ _ z=>z) i p q .nil I r fr v
def yc{eH:YN}{σ:St}{H:Hp}{s:Zp}{it:Zl}{fp:YI}{tn:Nat->Heap->Prop}{J:It}{cl:YR}{F:List V->Hp->Prop}{E:ZY}{RR:Value->Addr->Result->Shared->Prop}{W:Nat->Nat->List V->St->Hp->Prop}{m0:Nat}
 (S:dX X scope own js N')(hc1:∀x c,cl.lookup x=some c->X.env.cells.lookup x=some c)(hc2:∀x,(x,NameKind.free)∈scope.names->∃c,cl.lookup x=some c)
 (I:Inv X eH σ H s)(T:Turn X.prog X.w X.K tg J fp it tn)(st:tn 0 s.heap)(hf:∀b∈fp,km X eH H b)(L:yG X scope N' fp tn it (.ListComp elt (⟨tg,iter,ifs,0⟩::rest) scope pos) W F cl s H)(w0:W 0 m0 [] (jU own.length js σ) H)
 (hF:∀ys H',F ys H'->ys.length<=sizeLine)
 (fin:∀acc C H' ys s' m,Inv X eH σ (upd H' acc (.lst ys)) s'->H' acc=none->s'.heap.Ns C m->(upd H' acc (.lst ys)) C=none->C≠X.env.locals->X.s₀.heap.objs.size<=C->(∀x c,X.env.cells.lookup x=some c->c≠C)->(∀p∈X.pn++eH,p.1≠C)->F ys H'->RR (.ref acc) C (.ok .next) s'):
 wpAny (model X.prog X.w) X.A (newList []) (λacc s₃=>wpAny (model X.prog X.w) X.A (newFunctionEnv scope X.env.globals cl [] X.env.qual none .none (some X.env)) (λcenv s₄=>codeAny (model X.prog X.w) X.A (.compStart (.ListComp elt (⟨tg,iter,ifs,0⟩::rest) scope pos) 0 (.ref it) acc {cenv with scope:=relabel scope X.env}) (RR acc cenv.locals) s₄) E s₃) E s:=by
 refine aa2 ?_;have sz:(s.heap.push (iG [] 0)).objs.size=s.heap.objs.size+1:=aa5 ..;refine uR (h1:=s.heap.push (iG [] 0)) S I (λ_ _ e=>aan _ e) (by rw[sz];exact abo _) hc1 hc2 T st hf λe s₄ e1 e2 up I1 st1 fs=>?_;rw[e1,e2];obtain⟨_,c1,_,_,c4,c5⟩:=I.fpOk (H':=H) (b:=(s.heap.push (iG [] 0)).objs.size) (by rw[sz];exact abo _) (I.hok.fresh (by rw[sz];exact abo _));obtain⟨a0,a1,a2,_,a4,_⟩:=I.fpOk (H':=H) (aaf _) (I.hok.fresh (aaf _));have aC:s.heap.objs.size≠(s.heap.push (iG [] 0)).objs.size:=by rw[sz];exact aay (ace _)
 have hacc:s₄.heap.get? s.heap.objs.size=some (iG [] 0):=up _ _ (aaC _ rfl);have stk:s.heap.objs.size∉frs X.stack:=λb=>by obtain⟨_,o,ho,_⟩:=I.stack.mem b;exact absurd (aaq ho) (abu _)
 have oldLt:∀b o,s.heap.get? b=some o->b≠s.heap.objs.size:=λb o e=>aay (aaq e);have cC:X.s₀.heap.objs.size<=(s.heap.push (iG [] 0)).objs.size:=aag I.sz (by rw[sz];exact abo _);generalize hCn:(s.heap.push (iG [] 0)).objs.size=C at*;generalize hAn:s.heap.objs.size=acc at*;have I2:Inv (eV X scope N' cl C s H fp) [(acc,iG [] 0)] (jU own.length js σ) H s₄:=I1.pins_of λp hp=>by
  obtain rfl:p=(acc,iG [] 0):=by simpa using hp
  exact⟨hacc,a0,aC,stk,λv z=>by cases z⟩
 have loop:codeAny (model X.prog X.w) X.A (.compLoop (.ListComp elt (⟨tg,iter,ifs,0⟩::rest) scope pos) 0 (.ref it) (.ref acc) (compEnvC scope cl C X.env)) (RR (.ref acc) C) s₄:=by
  refine L C acc _ (λb hb=>⟨(fs b hb).2,aay (fs b hb).1⟩) ⟨aC,stk,.inr (by show s.heap.objs.size<=acc;rw[hAn];exact aaf _),λx c e=>a4 x c (hc1 x c e),λp hp=>absurd (show p∈([]:YN)from hp) (by simp)⟩ (λs' σ' H' ys us k J' rv q=>?_) _ _ _ _ I2 st1 (λb hb=>(hf b hb).1) w0;obtain⟨e',n',_⟩:=J'.pin (acc,iG us k) (aaE _ aal);have n'':H' acc=none:=n';obtain⟨m,hm,_⟩:=J'.loc;have un:Un (frs X.stack) fp H (upd H' acc (.lst ys)) s.heap s'.heap:=⟨J'.base.keep,J'.base.slot,λb o e n hx=>by rw[c7 (oldLt b o e)];exact J'.base.free b o e n hx,J'.base.there,
   λb xs e=>by have z:=J'.base.tups b xs e;rw[c7 (dg z n'')];exact z,
   λb o u e=>by have z:=J'.base.frzs b o u e;rw[c7 (dg z n'')];exact z,
   λb ps e=>by
    obtain⟨more,z⟩:=J'.base.tbls b ps e;exact⟨more,by rw[c7 (dg z n'')];exact z⟩⟩;have hok:oG X.prog X.w (upd H' acc (.lst ys)) s'.heap:=λb u e=>by
   by_cases hb:b=acc
   ·subst hb;rw[a_]at e;cases e;exact⟨hF _ _ q,us,k,rv,e'⟩
   ·rw[c7 hb]at e;exact(J'.hok b u e).stay (λc v _ z=>z) (λc z=>by rw[c7 (dg z n'')];exact z) λc xs z=>by rw[c7 (dg z n'')];exact z
  exact fin acc C H' ys s' m (I.call' J'.os un hok J'.bare λb hb=>⟨(hf b hb).2.2.2.1,(hf b hb).2.1,(hf b hb).2.2.2.2.1,(hf b hb).2.2.2.2.2⟩) n'' hm (by rw[c7 (aaI aC)];exact J'.free) c1 cC c4 c5 q
 exact codeAny_compStart_list loop (T.self _ 0 _ _ _ st1 loop)
def Ab{E:St}{H:Hp}{s:Zp}{D:Ends}(L:X.N.Nodup)(M:X.N[i]?=some x)(hk:X.env.scope.names.lookup x=some .local)(N:Inv X d E H s)(O:s.heap.Ns C m)(A:H C=none)(F:C≠X.env.locals)(P:X.s₀.heap.objs.size<=C)
 (l:∀x c,X.env.cells.lookup x=some c->c≠C)(B:∀p∈X.pn++d,p.1≠C)(q:D.nx (E.set i (some (.ref f))) H):compPost (model X.prog X.w) X.A X.xe (some (assign (.Name x h) X.env)) (λ_ G=>SP X d D .next G) (.ref f) C (.ok .next) s:=by
 show wpAny _ X.A (assign (.Name x h) X.env (.ref f)) _ _ s;refine wpAny_assign_Name (uH N L M (.inl hk) (v:=.ref f) rfl (λn r j=>?_) (.inr hk));obtain⟨a,j,J⟩:=j;have y:C≠a:=by
  rcases J with z|z
  ·rw[z];exact F
  ·exactλq=>l x a z q.symm
 refine⟨m,O.sameBut j y,λQ w=>⟨_,_,?_,q⟩⟩;exact r.turned (t':=n.toks) (it:=C) (λb o I e=>(w.2 b I).trans e) A F (.inr P) l B
noncomputable def Fw(d:TI)(e:St->It->(List V->Hp->Prop)->(Nat->Nat->List V->St->Hp->Prop)->Prop)(k:Nat)(f:List Nat):TE:=λa H Q=>d a H λJ c=>∃W:Nat->Nat->List V->St->Hp->Prop,(∃m,W 0 m [] (jU k f a) c)/\
 e a J (λys b=>ys.length<=sizeLine/\∀p,b p=none->Q (.ref p) (upd b p (.lst ys))) W
def yh(S:dX X scope own js N')(hi:PI X tg iter wi)(A:∀{i fp l J F W a d E s H},Inv X a d H s->(∀b∈fp,km X a H b)->Turn X.prog X.w X.K tg J fp i l->CT d J F W->yG X scope N' fp l i (.ListComp elt (⟨tg,iter,ifs,0⟩::rest) scope pos) W F E s H)
 (hs:∀x,foldedSetIterable iter X.env x=pure x:=by intro _;rfl):PE X (.ListComp elt (⟨tg,iter,ifs,0⟩::rest) scope pos) (Fw wi CT own.length js):=by
 intro a s d H Q I h;obtain⟨E,n,p,r⟩:=oX (env:=X.env) scope λy M hk=>I.ok.has y.1 (S.free y M hk);rw[eval_ListComp];refine acO (use:=none) rfl hs n S.kind S.names (gH (hi a s d H _ I h) λv s1 N=>gH N λO s2 P=>?_);obtain⟨i,fp,l,J,H2,e,G,T,w,L,W,⟨m0,Y⟩,f⟩:=P;subst e;refine yc (RR:=λc C=>compPost (model X.prog X.w) X.A X.xe none (EP X a d Q) c C) S p r G T w L (A G L T f) Y (λys R q=>q.1) ?_;intro c C R ys Z m IX na hm z A hz B D q;refine⟨m,hm,λh' j=>⟨.ref c,_,?_,rfl,q.2 c na⟩⟩;exact IX.turned (t':=Z.toks) (it:=C) (λb o U e=>(j.2 b U).trans e) z A (.inr hz) B D
def yw(S:dX X scope own js N')(hN:X.N.Nodup)(hx:X.N[i]?=some x)(hk:X.env.scope.names.lookup x=some .local)(hi:PI X tg iter wi)(p:∀{z fp A J F W a n N s H},Inv X a n H s->(∀b∈fp,km X a H b)->Turn X.prog X.w X.K tg J fp z A->CT n J F W->yG X scope N' fp A z (.ListComp elt (⟨tg,iter,ifs,0⟩::rest) scope pos) W F N s H)
 (M:swapsWith (.ListComp elt (⟨tg,iter,ifs,0⟩::rest) scope pos) (some (.Name x c)) d.line X.env=pure true:=by rfl)(hs:∀x,foldedSetIterable iter X.env x=pure x:=by intro _;rfl):
 PS X (.Assign [.Name x c] (.ListComp elt (⟨tg,iter,ifs,0⟩::rest) scope pos) d) (Jj (Fw wi CT own.length js) (eN i)):=by
 intro a s n H D I h;obtain⟨N,B,E,G⟩:=oX (env:=X.env) scope λy R hk=>I.ok.has y.1 (S.free y R hk);rw[exec_Assign_Name_used _ _ _ _ M];refine aaa (abl (aaa ?_));show wpAny _ X.A (do let _<-comprehension (.ListComp elt (⟨tg,iter,ifs,0⟩::rest) scope pos) scope X.env _ (newList []) false (eval iter X.env) (some (assign (.Name x c) X.env))) _ _ s;refine aaa (aaG (acO (use:=some (assign (.Name x c) X.env)) (Q:=λ_ j=>SP X a D .next j) rfl hs B S.kind S.names (gH (hi a s n H _ I h) λv s1 U=>gH U λY s2 Z=>?_)) (λ_ j hq=>aae (aae hq)) λ_ _ e=>e);obtain⟨z,fp,A,J,H2,e,O,T,L,P,W,⟨m0,w0⟩,l⟩:=Z;subst e;exact yc (RR:=λf C=>compPost (model X.prog X.w) X.A X.xe (some (assign (.Name x c) X.env)) (λ_ j=>SP X a D .next j) f C) S E G O T L P (p O P T l) w0 (λys H' q=>q.1) λf C H' ys j m IX na hm o p hz r w q=>Ab hN hx hk IX hm o p hz r w (q.2 f na)
def jb(S:dX X scope own js N')(c:X.calm=true)(h:PI X tg iter wi)(i:∀e C a b f,PG (eV X scope N' e C a b f) tg g)(j:∀e C a b f,pH (eV X scope N' e C a b f) ifs tt)
 (l:∀e C a b f,PE (eV X scope N' e C a b f) elt te)(m:∀x,foldedSetIterable iter X.env x=pure x:=by intro _;rfl):PE X (.ListComp elt [⟨tg,iter,ifs,0⟩] scope pos) (NP wi g tt te own.length js):=
 yh (CT:=λ_ J F W=>rO J g tt te F W) S h (λ_ _ T d=>uI c i j (λ_=>l _ _ _ _ _) T d) m
def jL(S:dX X scope own js N')(e:X.calm=true)(m:X.N.Nodup)(n:X.N[i]?=some x)(hk:X.env.scope.names.lookup x=some .local)(o:PI X tg iter wi)(p:∀h C a b j,PG (eV X scope N' h C a b j) tg g)(q:∀h C a b j,pH (eV X scope N' h C a b j) ifs tt)
 (r:∀h C a b j,PE (eV X scope N' h C a b j) elt te)(l:swapsWith (.ListComp elt [⟨tg,iter,ifs,0⟩] scope pos) (some (.Name x c)) d.line X.env=pure true:=by rfl)(s:∀x,foldedSetIterable iter X.env x=pure x:=by intro _;rfl):
 PS X (.Assign [.Name x c] (.ListComp elt [⟨tg,iter,ifs,0⟩] scope pos) d) (Jj (NP wi g tt te own.length js) (eN i)):=
 yw (CT:=λ_ J F W=>rO J g tt te F W) S m n hk o (λ_ _ T f=>uI e p q (λ_=>r _ _ _ _ _) T f) l s
end
section
variable{X:Cx}
def UT(i j:Int):Prop:=0<j/\j<340282366920938463463374607431768211456
def HY:m_ X (binaryOp .FloorDiv) (rI UT λi j=>.int (i/j)):=Ul λi j _ _ _ _ _ a q=>by
 rw[<-ac2 i (Int.le_of_lt a.1)]at q;have d:(0:Int)<j:=a.1;have e:j<340282366920938463463374607431768211456:=a.2;have b:j.natAbs<340282366920938463463374607431768211456:=by omega
 have c:(2:Nat) ^ 128=340282366920938463463374607431768211456:=by ext
 have f:j.natAbs.log2<128:=(Nat.log2_lt (by omega)).mpr (Nat.lt_of_lt_of_eq b c.symm);exact floordiv_int (by have:=a.1;omega) q (.inl (PyProof.noPylong_of_log2 (by omega)))
abbrev CW(J:It)(g:TG)(b:TT)(c:TE)(F:List V->Hp->Prop)(a:St)(d:Hp):Prop:=∃W:Nat->Nat->List V->St->Hp->Prop,(∃m,W 0 m [] a d)/\rO J g b c F W
def xO(P:Nat->List V->St->Hp->Prop)(I:n<=sizeLine)(E:P 0 [] l A)(hd:∀ys e H,P n ys e H->J.stop n H/\F ys H)
 (G:∀i ys e H,i<n->P i ys e H->J.go i H/\ys.length<=i/\∀x o,J.yld i H x o->∀N:List V->St->Hp->Prop,(∀f j r,P (i+1) f j r->N f j r)->g x e o λd B=>w d B λb s=>if b=true then z d s λy C=>N (ys++[y]) d C else N ys d s):CW J g w z F l A:=by
 refine⟨λi m ys e H=>m=n-i/\i<=n/\P i ys e H,⟨_,rfl,aaJ _,E⟩,?_⟩;rintro i m ys e H⟨rfl,D,p⟩;rcases Nat.lt_or_eq_of_le D with h|rfl
 ·obtain⟨a,b,c⟩:=G i ys e H h p;exact .inr ⟨a,by omega,λx o y=>c x o y (λf j r=>∃v,v<n-i/\v=n-(i+1)/\i+1<=n/\P (i+1) f j r) λ_ _ _ q=>⟨_,by omega,rfl,h,q⟩⟩
 ·exact .inl (hd ys e H p)
def pY(l:Nat->List V->St->Hp->Prop)(A:n<=sizeLine)(B:l 0 [] j s)(hd:∀ys c H,ys.length=n->l n ys c H->J.stop n H/\F ys H)
 (v:∀i ys c H,i<n->ys.length=i->l i ys c H->J.go i H/\∀x m,J.yld i H x m->∀N:List V->St->Hp->Prop,(∀d f o,d.length=i+1->l (i+1) d f o->N d f o)->g x c m λe w=>r e w λy z=>N (ys++[y]) e z):CW J g qm r F j s:=
 xO (λi ys c H=>ys.length=i/\l i ys c H) A ⟨rfl,B⟩ (λys c H p=>hd ys c H p.1 p.2) λi ys c H h p=>⟨(v i ys c H h p.1 p.2).1,Nat.le_of_eq p.1,λx m y N q=>(v i ys c H h p.1 p.2).2 x m y N λ_ _ _ a b=>q _ _ _ ⟨a,b⟩⟩
def vz(l:Nat->List V->St->Hp->Prop)(C:n<=sizeLine)(D:l 0 [] j w)(hd:∀ys c H,ys.length<=n->l n ys c H->J.stop n H/\F ys H)
 (z:∀i ys c H,i<n->l i ys c H->J.go i H/\∀x m,J.yld i H x m->∀N:List V->St->Hp->Prop,(∀e f r,l (i+1) e f r->e.length<=ys.length+1->N e f r)->g x c m λd A=>s d A λb o=>if b=true then v d o λy B=>N (ys++[y]) d B else N ys d o):CW J g s v F j w:=
 xO (λi ys c H=>ys.length<=i/\l i ys c H) C ⟨aaf _,D⟩ (λys c H p=>hd ys c H p.1 p.2) λi ys c H h p=>⟨(z i ys c H h p.2).1,p.1,λx m y N q=>(z i ys c H h p.2).2 x m y N λ_ _ _ a b=>q _ _ _ ⟨by omega,a⟩⟩
def oH{o:Int}{n:Nat}{g:TG}{q:TE}{F:List V->Hp->Prop}{f:St}{r:Hp}(j:Nat->List V->St->Hp->Prop)(w:n<=sizeLine)(z:j 0 [] f r)
 (A:∀i ys a H,i<n->ys.length=i->j i ys a H->∀N:List V->St->Hp->Prop,(∀b d m,b.length=i+1->j (i+1) b d m->N b d m)->g (.int (o+i)) a H λc s=>q c s λy v=>N (ys++[y]) c v)
 (hd:∀ys a H,ys.length=n->j n ys a H->F ys H):CW (Rx o n) g qm q F f r:=
 pY j w z (λys a H l p=>⟨aaf _,hd ys a H l p⟩) λi ys a H h l p=>⟨h,λx _⟨e,y⟩=>by subst e y;exact A i ys a _ h l p⟩
def iY{S:Hp->List V->Prop}{xs:List V}{g:TG}{o:TE}{F:List V->Hp->Prop}{j:St}{q:Hp}(c:Nat->List V->St->Hp->Prop)(v:xs.length<=sizeLine)(w:c 0 [] j q)(m:∀i ys a H,i<=xs.length->c i ys a H->S H xs)
 (z:∀i x ys a H,xs[i]?=some x->ys.length=i->c i ys a H->∀N:List V->St->Hp->Prop,(∀b f n,b.length=i+1->c (i+1) b f n->N b f n)->g x a H λd r=>o d r λy s=>N (ys++[y]) d s)
 (hd:∀ys a H,ys.length=xs.length->c xs.length ys a H->F ys H):CW (Ua S) g qm o F j q:=
 pY c v w (λys a H l p=>⟨⟨xs,m _ ys a H (aaf _) p,aaf _⟩,hd ys a H l p⟩) λi ys a H h l p=>⟨⟨xs,xs[i],m i ys a H (aaX h) p,by simp[h]⟩,λx _⟨e,y⟩=>by subst e;exact z i x ys a _ (y xs (m i ys a _ (aaX h) p)) l p⟩
structure gq(K:Zs)(mg:Y1)(x:Str)(st:Stmt)(ps:Y2)(f:Zl)(fd:ZB):Prop where
 F:ir K x x st f fd
 mg:mg x=some (.ref f)
 b:Binds K fd ps []
def ii(p:Zl)(H a:Hp):Prop:=∀b o,H b=some o->b≠p->a b=some o
def ii.refl:ii p H H:=λ_ _ h _=>h
def ii.trans(a:ii p H e)(b:ii p e f):ii p H f:=λc o h d=>b c o (a c o h d) d
def ii.upd:ii p H (upd H p o):=λb u h a=>by rw[c7 a];exact h
def ii.new(h:H q=none):ii p H (L2.upd H q o):=λb u e _=>by rw[c7 (dg e h)];exact e
end
def rB(M:St->Hp->Prop)(d:∀a b,M a b->u D a b)(e:∀N:St->Hp->Prop,(∀a b,M a b->N a b)->t {D with nx:=N} c H):Lg t u D c H:=e (u D) d
def di.new(h:H q=none):di H (upd H q o):=λb u e=>by rw[c7 (dg e h)];exact e
def di.but(h:di H a):ii p H a:=λb o e _=>h b o e
def di.tup{K:Zs}{H b:Hp}{a:Zl}{c:List V}(e:di H b)(h:gf K H a c):gf K b a c:=by
 rcases h with(h|⟨o,h⟩)|h
 ·exact .inl (.inl (e _ _ h))
 ·exact .inl (.inr ⟨o,e _ _ h⟩)
 ·exact .inr h
def gD:bootBuiltins "len"=some (.builtin "len"):=by ext
def vY:bootBuiltins "list"=some (.type "list"):=by ext
def jE:bootBuiltins "tuple"=some (.type "tuple"):=by ext
def Ao:bootBuiltins "str"=some (.type "str"):=by ext
def pZ:bootBuiltins "int"=some (.type "int"):=by ext
def pI:bootBuiltins "bool"=some (.type "bool"):=by ext
def R8:bootBuiltins "min"=some (.builtin "min"):=by ext
def Q3:bootBuiltins "max"=some (.builtin "max"):=by ext
def Hf:bootBuiltins "all"=some (.builtin "all"):=by ext
def Ob:bootBuiltins "any"=some (.builtin "any"):=by ext
def eQ:bootBuiltins "isinstance"=some (.builtin "isinstance"):=by ext
def Al:bootBuiltins "sum"=some (.builtin "sum"):=by ext
open PySem.SeqAt
mutual
inductive Rep (K:Zs) (H:Hp):V->PyData->Prop
 |non:Rep K H .non .none
 |bl (b:Bool):Rep K H (.bl b) (.bool b)
 |int (i:Int):Rep K H (.int i) (.int i)
 |str (x:Str):Rep K H (.str x) (.str x)
 |tup {a:Zl} {xs:List V} {ds:List PyData}:gf K H a xs->gn K H xs ds->Rep K H (.ref a) (.tuple ds)
 |lst {a:Zl} {xs:List V} {ds:List PyData}:fj K H a xs->gn K H xs ds->Rep K H (.ref a) (.list ds)
inductive gn (K:Zs) (H:Hp):List V->List PyData->Prop
 |nil:gn K H [] []
 |cons {x:V} {d:PyData} {xs:List V} {ds:List PyData}:Rep K H x d->gn K H xs ds->gn K H (x::xs) (d::ds)
end
section
variable{K:Zs}{H H':Hp}
theorem gn.length:∀{xs:List V}{a:List PyData},gn K H xs a->xs.length=a.length
 |_,_,.nil=>rfl
 |_,_,.cons _ t=>by rw[aav,aav,gn.length t]
mutual
theorem Rep.map (e:∀a c,gf K H a c->gf K H' a c) (f:∀a c,fj K H a c->fj K H' a c):∀{v:V}{d:PyData},Rep K H v d->Rep K H' v d
 |_,_,.non=>.non
 |_,_,.bl b=>.bl b
 |_,_,.int i=>.int i
 |_,_,.str x=>.str x
 |_,_,.tup h r=>.tup (e _ _ h) (gn.map e f r)
 |_,_,.lst h r=>.lst (f _ _ h) (gn.map e f r)
theorem gn.map (c:∀a b,gf K H a b->gf K H' a b) (e:∀a b,fj K H a b->fj K H' a b):∀{v:List V}{d:List PyData},gn K H v d->gn K H' v d
 |_,_,.nil=>.nil
 |_,_,.cons h r=>.cons (Rep.map c e h) (gn.map c e r)
end
def Rep.same(h:Rep K H v d)(e:di H H'):Rep K H' v d:=h.map (λ_ _ z=>e.tup z) (λ_ _ z=>e.seq z)
def gn.same(h:gn K H v d)(e:di H H'):gn K H' v d:=h.map (λ_ _ z=>e.tup z) (λ_ _ z=>e.seq z)
def ii.seq(e:ii p H H')(c:H p=some (.dK b))(h:fj K H a xs):fj K H' a xs:=by
 rcases h with(h|⟨o,h⟩)|h
 ·exact .inl (.inl (e _ _ h (j9 h c (by intro z;cases z))))
 ·exact .inl (.inr ⟨o,e _ _ h (j9 h c (by intro z;cases z))⟩)
 ·exact .inr h
def ii.tup{p a:Zl}{c:List V}{b:List (Key×V)}(e:ii p H H')(d:H p=some (.dK b))(h:gf K H a c):gf K H' a c:=by
 rcases h with(h|⟨o,h⟩)|h
 ·exact .inl (.inl (e _ _ h (j9 h d (by intro z;cases z))))
 ·exact .inl (.inr ⟨o,e _ _ h (j9 h d (by intro z;cases z))⟩)
 ·exact .inr h
def Rep.but(h:Rep K H v d)(e:ii p H H')(b:H p=some (.dK a)):Rep K H' v d:=h.map (λ_ _ z=>e.tup b z) (λ_ _ z=>e.seq b z)
def gn.but(h:gn K H v d)(e:ii p H H')(b:H p=some (.dK a)):gn K H' v d:=h.map (λ_ _ z=>e.tup b z) (λ_ _ z=>e.seq b z)
theorem gn.get':∀{a:List V}{b:List PyData}{i:Nat}{x:V},gn K H a b->a[i]?=some x->∃d,b[i]?=some d/\Rep K H x d
 |_,_,_,_,.nil,e=>by simp at e
 |_,_,0,_,.cons r _,e=>by simp at e;subst e;exact⟨_,rfl,r⟩
 | _,_,i+1,d,.cons _ t,e=>by obtain⟨u,c,f⟩:=gn.get' (i:=i) (x:=d) t (by simpa using e);exact⟨u,by simpa using c,f⟩
end
mutual
noncomputable def lB:PyData->PyData->Bool
 |.none,.none=>true
 |.bool a,.bool b=>a==b
 |.bool a,.int b=>(if a then 1 else 0)==b
 |.int a,.bool b=>a==(if b then 1 else 0)
 |.int a,.int b=>a==b
 |.str a,.str b=>a==b
 |.tuple a,.tuple b=>jw a b
 |.list a,.list b=>jw a b
 |_,_=>false
noncomputable def jw:List PyData->List PyData->Bool
 |[],[]=>true
 |a::r,b::t=>lB a b&&jw r t
 |_,_=>false
end
theorem uE:∀(c d:List PyData),jw c d=((List.range (min c.length d.length)).all (λj=>lB (c.getD j .none) (d.getD j .none))&&c.length==d.length)
 |[],[]=>by simp[jw]
 |[],_::_=>by simp[jw]
 |_::_,[]=>by simp[jw]
 | a::r,b::t=>by
   rw[jw,uE r t,aav,aav,Nat.succ_min_succ,acm,abZ,List.all_map];simp only[List.getD_cons_zero,Bool.and_assoc];congr 1;have e:(r.length+1==t.length+1)=(r.length==t.length):=by rw[aba];simp
   rw[e];congr 1
mutual
noncomputable def gU:PyData->Nat
 |.tuple a=>gA a+1
 |.list a=>gA a+1
 |_=>0
noncomputable def gA:List PyData->Nat
 |[]=>0
 |d::r=>max (gU d) (gA r)
end
section
variable{X:Cx}{eH:YN}{σ:St}{H:Hp}{s:Zp}
mutual
theorem Rep.fn (I:Inv X eH σ H s):∀{v:V}{d e:PyData}{u:ZI},Rep X.K H v d->Rep X.K H v e->RelV v u->d=e/\lB d d=true
 |_,_,_,_,.non,.non,_=>⟨rfl,rfl⟩
 |_,_,_,_,.bl b,.bl _,_=>⟨rfl,by simp[lB]⟩
 |_,_,_,_,.int i,.int _,_=>⟨rfl,by simp[lB]⟩
 |_,_,_,_,.str x,.str _,_=>⟨rfl,by simp[lB]⟩
 | _,_,_,_,.tup h1 r1,.tup h2 r2,r=>by have e:=I.tuple_inj h1 h2;subst e;obtain⟨f,g,_,_⟩:=I.tuple h1;obtain⟨e,q⟩:=gn.fn I r1 r2 g;exact⟨by rw[e],q⟩
 | _,_,_,_,.lst h1 r1,.lst h2 r2,r=>by have e:=I.list_inj h1 h2;subst e;obtain⟨f,g,_,_⟩:=I.list h1;obtain⟨e,q⟩:=gn.fn I r1 r2 g;exact⟨by rw[e],q⟩
 | _,_,_,_,.tup h1 _,.lst h2 _,r=>by obtain⟨_,_,⟨o,h,j,_⟩,_⟩:=I.tuple h1;obtain⟨_,_,⟨l,n,a,c,_⟩,_⟩:=I.list h2;rw[h]at a;cases a;rw[j]at c;injection c with z;exact absurd z (by decide)
 | _,_,_,_,.lst h2 _,.tup h1 _,r=>by obtain⟨_,_,⟨o,h,j,_⟩,_⟩:=I.tuple h1;obtain⟨_,_,⟨l,n,a,c,_⟩,_⟩:=I.list h2;rw[h]at a;cases a;rw[j]at c;injection c with z;exact absurd z (by decide)
theorem gn.fn (I:Inv X eH σ H s):∀{v:List V}{d e:List PyData}{u:Y3},gn X.K H v d->gn X.K H v e->Vals v u->d=e/\jw d d=true
 |_,_,_,_,.nil,.nil,_=>⟨rfl,rfl⟩
 | _,_,_,_,.cons a b,.cons c d,.cons r rs=>by obtain⟨f,q1⟩:=Rep.fn I a c r;obtain⟨g,q2⟩:=gn.fn I b d rs;exact⟨by rw[f,g],by simp[jw,q1,q2]⟩
end
def Ci{a b:List PyData}{c d:Y3}{A:ZO}(e:gn X.K H vs a)(f:gn X.K H i b)(g:Vals vs c)(h:Vals i d):
 ((List.range (min c.toArray.size d.toArray.size)).all (λj=>lB (a.getD j .none) (b.getD j .none))&&c.toArray.size==d.toArray.size)=jw a b:=by
 rw[uE,aau,aau,<-g.length,<-h.length,e.length,f.length]
def Z9{d e:List PyData}{a c:Y3}{A:ZO}(f:gn X.K H vs d)(g:gn X.K H o e)(h:Vals vs a)(i:Vals o c)(p:IsTup s.heap l a.toArray)(q:IsTup s.heap b c.toArray)(r:A.units<cLine)
 (v:∀j(m:j<a.length)(n:j<c.length),EqAt A.in1 s a[j] c[j] (lB (d.getD j .none) (e.getD j .none))):RcAt A s (.ref l) (.ref b) (lB (.tuple d) (.tuple e)):=by
 show RcAt A s (.ref l) (.ref b) (jw d e);rw[<-Ci (A:=A) f g h i];exact RcAt.tuples (show s.heap.IsTuple l a.toArray from p) (show s.heap.IsTuple b c.toArray from q) r λj m n=>by simpa using v j (by simpa using m) (by simpa using n)
def Zf{f g:List PyData}{a c:Y3}{A:ZO}(h:gn X.K H vs f)(i:gn X.K H r g)(m:Vals vs a)(n:Vals r c)(v:s.heap.IsList l a.toArray)(w:s.heap.IsList b c.toArray)(x:A.units<cLine)
 (y:∀j(o:j<a.length)(p:j<c.length),EqAt A.in1 s a[j] c[j] (lB (f.getD j .none) (g.getD j .none))):RcAt A s (.ref l) (.ref b) (lB (.list f) (.list g)):=by
 show RcAt A s (.ref l) (.ref b) (jw f g);have q:=Ci (A:=A) h i m n;by_cases d:a.toArray.size=c.toArray.size
 ·rw[<-q,d,Nat.min_self,ab2,Bool.and_true,<-d];exact RcAt.lists v w d x λj o p=>by simpa using y j (by simpa using o) (by simpa using p)
 ·have e:jw f g=false:=by
   rw[<-q];have:(a.toArray.size==c.toArray.size)=false:=by simpa using d
   rw[this,acK]
  rw[e];exact RcAt.lists_lengths v w (by simpa using d) x
def eqT(I:Inv X eH σ H s)(p:gf X.K H l vs)(r:gf X.K H b h)(c:gn X.K H vs i)(d:gn X.K H h m)(n:Vals vs f)(o:Vals h g)(v:IsTup s.heap l f.toArray)(w:IsTup s.heap b g.toArray)(x:A.units<cLine)
 (y:∀j(p:j<f.length)(r:j<g.length),EqAt A.in1 s f[j] g[j] (lB (i.getD j .none) (m.getD j .none))):EqAt A s (.ref l) (.ref b) (lB (.tuple i) (.tuple m)):=by
 by_cases a:l=b
 ·subst a;obtain⟨e,q⟩:=Rep.fn I (.tup p c) (.tup r d) (u:=.ref l) rfl;rw[<-e,q];exact EqAt.same _
 ·exact EqAt.of_refs a (Z9 c d n o v w x y)
def Zx(I:Inv X eH σ H s)(p:fj X.K H l vs)(r:fj X.K H b h)(c:gn X.K H vs i)(d:gn X.K H h m)(n:Vals vs f)(o:Vals h g)(v:s.heap.IsList l f.toArray)(w:s.heap.IsList b g.toArray)(x:A.units<cLine)
 (y:∀j(p:j<f.length)(r:j<g.length),EqAt A.in1 s f[j] g[j] (lB (i.getD j .none) (m.getD j .none))):EqAt A s (.ref l) (.ref b) (lB (.list i) (.list m)):=by
 by_cases a:l=b
 ·subst a;obtain⟨e,q⟩:=Rep.fn I (.lst p c) (.lst r d) (u:=.ref l) rfl;rw[<-e,q];exact EqAt.same _
 ·exact EqAt.of_refs a (Zf c d n o v w x y)
def je{A:ZO}(h:A.units+n<cLine):A.units<cLine:=by omega
def hu0{A:ZO}(h:A.units+(n+1)<cLine):A.units<cLine:=by omega
def hu1{A:ZO}(h:A.units+(n+1)<cLine):A.in1.units+n<cLine:=by show A.units+1+n<cLine;omega
mutual
theorem Uw (I:Inv X eH σ H s):∀{v w:V}{d e:PyData}{u x:ZI}{A:ZO},Rep X.K H v d->Rep X.K H w e->RelV v u->RelV w x->A.units+gU d<cLine->EqAt A s u x (lB d e)
 |_,_,_,_,_,_,_,.non,.non,rfl,rfl,hu=>EqAt.same _
 |_,_,_,_,_,_,_,.non,.bl b2,rfl,rfl,hu=>EqAt.none_bool b2
 |_,_,_,_,_,_,_,.non,.int i2,rfl,⟨t2,rfl⟩,hu=>EqAt.none_int i2 t2
 |_,_,_,_,_,_,_,.non,.str y2,rfl,⟨t2,rfl⟩,hu=>EqAt.none_str y2 t2
 | _,_,_,_,_,_,_,.non,.lst h2 rs2,rfl,rfl,hu=>by obtain⟨a,c,g,_⟩:=I.list h2;exact EqAt.none_list g.isList (je hu)
 | _,_,_,_,_,_,_,.non,.tup h2 rs2,rfl,rfl,hu=>by obtain⟨a,c,g,_⟩:=I.tuple h2;exact EqAt.none_tuple g (je hu)
 |_,_,_,_,_,_,_,.bl b1,.non,rfl,rfl,hu=>EqAt.bool_none b1
 |_,_,_,_,_,_,_,.bl b1,.bl b2,rfl,rfl,hu=>EqAt.bool_bool b1 b2
 |_,_,_,_,_,_,_,.bl b1,.int i2,rfl,⟨t2,rfl⟩,hu=>EqAt.bool_int b1 i2 t2
 |_,_,_,_,_,_,_,.bl b1,.str y2,rfl,⟨t2,rfl⟩,hu=>EqAt.bool_str b1 y2 t2
 | _,_,_,_,_,_,_,.bl b1,.lst h2 rs2,rfl,rfl,hu=>by obtain⟨a,c,g,_⟩:=I.list h2;exact EqAt.bool_list b1 g.isList (je hu)
 | _,_,_,_,_,_,_,.bl b1,.tup h2 rs2,rfl,rfl,hu=>by obtain⟨a,c,g,_⟩:=I.tuple h2;exact EqAt.bool_tuple b1 g (je hu)
 |_,_,_,_,_,_,_,.int i1,.non,⟨t1,rfl⟩,rfl,hu=>EqAt.int_none i1 t1
 |_,_,_,_,_,_,_,.int i1,.bl b2,⟨t1,rfl⟩,rfl,hu=>EqAt.int_bool i1 t1 b2
 |_,_,_,_,_,_,_,.int i1,.int i2,⟨t1,rfl⟩,⟨t2,rfl⟩,hu=>EqAt.int_int i1 t1 i2 t2
 |_,_,_,_,_,_,_,.int i1,.str y2,⟨t1,rfl⟩,⟨t2,rfl⟩,hu=>EqAt.int_str i1 t1 y2 t2
 | _,_,_,_,_,_,_,.int i1,.lst h2 rs2,⟨t1,rfl⟩,rfl,hu=>by obtain⟨a,c,g,_⟩:=I.list h2;exact EqAt.int_list i1 t1 g.isList (je hu)
 | _,_,_,_,_,_,_,.int i1,.tup h2 rs2,⟨t1,rfl⟩,rfl,hu=>by obtain⟨a,c,g,_⟩:=I.tuple h2;exact EqAt.int_tuple i1 t1 g (je hu)
 |_,_,_,_,_,_,_,.str y1,.non,⟨t1,rfl⟩,rfl,hu=>EqAt.str_none y1 t1
 |_,_,_,_,_,_,_,.str y1,.bl b2,⟨t1,rfl⟩,rfl,hu=>EqAt.str_bool y1 t1 b2
 |_,_,_,_,_,_,_,.str y1,.int i2,⟨t1,rfl⟩,⟨t2,rfl⟩,hu=>EqAt.str_int y1 t1 i2 t2
 |_,_,_,_,_,_,_,.str y1,.str y2,⟨t1,rfl⟩,⟨t2,rfl⟩,hu=>EqAt.str_str y1 t1 y2 t2
 | _,_,_,_,_,_,_,.str y1,.lst h2 rs2,⟨t1,rfl⟩,rfl,hu=>by obtain⟨a,c,g,_⟩:=I.list h2;exact EqAt.str_list y1 t1 g.isList (je hu)
 | _,_,_,_,_,_,_,.str y1,.tup h2 rs2,⟨t1,rfl⟩,rfl,hu=>by obtain⟨a,c,g,_⟩:=I.tuple h2;exact EqAt.str_tuple y1 t1 g (je hu)
 | _,_,_,_,_,_,_,.lst h1 rs1,.non,rfl,rfl,hu=>by obtain⟨b,f,h,_⟩:=I.list h1;exact EqAt.list_none h.isList (je hu)
 | _,_,_,_,_,_,_,.lst h1 rs1,.bl b2,rfl,rfl,hu=>by obtain⟨b,f,h,_⟩:=I.list h1;exact EqAt.list_bool b2 h.isList (je hu)
 | _,_,_,_,_,_,_,.lst h1 rs1,.int i2,rfl,⟨t2,rfl⟩,hu=>by obtain⟨b,f,h,_⟩:=I.list h1;exact EqAt.list_int i2 t2 h.isList (je hu)
 | _,_,_,_,_,_,_,.lst h1 rs1,.str y2,rfl,⟨t2,rfl⟩,hu=>by obtain⟨b,f,h,_⟩:=I.list h1;exact EqAt.list_str y2 t2 h.isList (je hu)
 | _,_,_,_,_,_,_,.lst h1 rs1,.lst h2 rs2,rfl,rfl,hu=>by obtain⟨b,f,h,_⟩:=I.list h1;obtain⟨a,c,g,_⟩:=I.list h2;exact Zx I h1 h2 rs1 rs2 f c h.isList g.isList (hu0 hu) (oM I rs1 rs2 f c (hu1 hu))
 | _,_,_,_,_,_,_,.lst h1 rs1,.tup h2 rs2,rfl,rfl,hu=>by obtain⟨b,f,h,_⟩:=I.list h1;obtain⟨a,c,g,_⟩:=I.tuple h2;exact EqAt.list_tuple h.isList g (je hu)
 | _,_,_,_,_,_,_,.tup h1 rs1,.non,rfl,rfl,hu=>by obtain⟨b,f,h,_⟩:=I.tuple h1;exact EqAt.tuple_none h (je hu)
 | _,_,_,_,_,_,_,.tup h1 rs1,.bl b2,rfl,rfl,hu=>by obtain⟨b,f,h,_⟩:=I.tuple h1;exact EqAt.tuple_bool b2 h (je hu)
 | _,_,_,_,_,_,_,.tup h1 rs1,.int i2,rfl,⟨t2,rfl⟩,hu=>by obtain⟨b,f,h,_⟩:=I.tuple h1;exact EqAt.tuple_int i2 t2 h (je hu)
 | _,_,_,_,_,_,_,.tup h1 rs1,.str y2,rfl,⟨t2,rfl⟩,hu=>by obtain⟨b,f,h,_⟩:=I.tuple h1;exact EqAt.tuple_str y2 t2 h (je hu)
 | _,_,_,_,_,_,_,.tup h1 rs1,.lst h2 rs2,rfl,rfl,hu=>by obtain⟨b,f,h,_⟩:=I.tuple h1;obtain⟨a,c,g,_⟩:=I.list h2;exact EqAt.tuple_list h g.isList (je hu)
 | _,_,_,_,_,_,_,.tup h1 rs1,.tup h2 rs2,rfl,rfl,hu=>by obtain⟨b,f,h,_⟩:=I.tuple h1;obtain⟨a,c,g,_⟩:=I.tuple h2;exact eqT I h1 h2 rs1 rs2 f c h g (hu0 hu) (oM I rs1 rs2 f c (hu1 hu))
theorem oM (I:Inv X eH σ H s):∀{vs l:List V}{g m:List PyData}{h i:Y3}{A:ZO},gn X.K H vs g->gn X.K H l m->Vals vs h->Vals l i->A.units+gA g<cLine->
 ∀j(e:j<h.length)(f:j<i.length),EqAt A s h[j] i[j] (lB (g.getD j .none) (m.getD j .none))
 |_,_,_,_,_,_,_,.nil,_,.nil,_,_,j,e,_=>absurd e (acn _)
 |_,_,_,_,_,_,_,.cons _ _,.nil,.cons _ _,.nil,_,j,_,f=>absurd f (acn _)
 |_,_,_,_,_,_,_,.cons a b,.cons c d,.cons r rs,.cons t ts,hu,0,_,_=>Uw I a c r t (by simp only[gA]at hu;simp only[List.getD_cons_zero];omega)
 |_,_,_,_,_,_,_,.cons a b,.cons c d,.cons r rs,.cons t ts,hu,j+1,e,f=>oM I b d rs ts (by simp only[gA]at hu;omega) j (by simpa using e) (by simpa using f)
end
theorem Te(I:Inv X eH σ H s):∀{v w:V}{d e:PyData}{u x:ZI}{A:ZO},Rep X.K H v d->Rep X.K H w e->RelV v u->RelV w x->A.units+gU d<cLine->RcAt A s u x (lB d e)
 |_,_,_,_,_,_,_,.non,.non,rfl,rfl,hu=>RcAt.none_none
 |_,_,_,_,_,_,_,.non,.bl b2,rfl,rfl,hu=>RcAt.none_bool b2
 |_,_,_,_,_,_,_,.non,.int i2,rfl,⟨t2,rfl⟩,hu=>RcAt.none_int i2 t2
 |_,_,_,_,_,_,_,.non,.str y2,rfl,⟨t2,rfl⟩,hu=>RcAt.none_str y2 t2
 | _,_,_,_,_,_,_,.non,.lst h2 rs2,rfl,rfl,hu=>by obtain⟨a,c,g,_⟩:=I.list h2;exact RcAt.none_list g.isList (je hu)
 | _,_,_,_,_,_,_,.non,.tup h2 rs2,rfl,rfl,hu=>by obtain⟨a,c,g,_⟩:=I.tuple h2;exact RcAt.none_tuple g (je hu)
 |_,_,_,_,_,_,_,.bl b1,.non,rfl,rfl,hu=>RcAt.bool_none b1
 |_,_,_,_,_,_,_,.bl b1,.bl b2,rfl,rfl,hu=>RcAt.bool_bool b1 b2
 |_,_,_,_,_,_,_,.bl b1,.int i2,rfl,⟨t2,rfl⟩,hu=>RcAt.bool_int b1 i2 t2
 |_,_,_,_,_,_,_,.bl b1,.str y2,rfl,⟨t2,rfl⟩,hu=>RcAt.bool_str b1 y2 t2
 | _,_,_,_,_,_,_,.bl b1,.lst h2 rs2,rfl,rfl,hu=>by obtain⟨a,c,g,_⟩:=I.list h2;exact RcAt.bool_list b1 g.isList (je hu)
 | _,_,_,_,_,_,_,.bl b1,.tup h2 rs2,rfl,rfl,hu=>by obtain⟨a,c,g,_⟩:=I.tuple h2;exact RcAt.bool_tuple b1 g (je hu)
 |_,_,_,_,_,_,_,.int i1,.non,⟨t1,rfl⟩,rfl,hu=>RcAt.int_none i1 t1
 |_,_,_,_,_,_,_,.int i1,.bl b2,⟨t1,rfl⟩,rfl,hu=>RcAt.int_bool i1 t1 b2
 |_,_,_,_,_,_,_,.int i1,.int i2,⟨t1,rfl⟩,⟨t2,rfl⟩,hu=>RcAt.int_int i1 t1 i2 t2
 |_,_,_,_,_,_,_,.int i1,.str y2,⟨t1,rfl⟩,⟨t2,rfl⟩,hu=>RcAt.int_str i1 t1 y2 t2
 | _,_,_,_,_,_,_,.int i1,.lst h2 rs2,⟨t1,rfl⟩,rfl,hu=>by obtain⟨a,c,g,_⟩:=I.list h2;exact RcAt.int_list i1 t1 g.isList (je hu)
 | _,_,_,_,_,_,_,.int i1,.tup h2 rs2,⟨t1,rfl⟩,rfl,hu=>by obtain⟨a,c,g,_⟩:=I.tuple h2;exact RcAt.int_tuple i1 t1 g (je hu)
 |_,_,_,_,_,_,_,.str y1,.non,⟨t1,rfl⟩,rfl,hu=>RcAt.str_none y1 t1
 |_,_,_,_,_,_,_,.str y1,.bl b2,⟨t1,rfl⟩,rfl,hu=>RcAt.str_bool y1 t1 b2
 |_,_,_,_,_,_,_,.str y1,.int i2,⟨t1,rfl⟩,⟨t2,rfl⟩,hu=>RcAt.str_int y1 t1 i2 t2
 |_,_,_,_,_,_,_,.str y1,.str y2,⟨t1,rfl⟩,⟨t2,rfl⟩,hu=>RcAt.str_str y1 t1 y2 t2
 | _,_,_,_,_,_,_,.str y1,.lst h2 rs2,⟨t1,rfl⟩,rfl,hu=>by obtain⟨a,c,g,_⟩:=I.list h2;exact RcAt.str_list y1 t1 g.isList (je hu)
 | _,_,_,_,_,_,_,.str y1,.tup h2 rs2,⟨t1,rfl⟩,rfl,hu=>by obtain⟨a,c,g,_⟩:=I.tuple h2;exact RcAt.str_tuple y1 t1 g (je hu)
 | _,_,_,_,_,_,_,.lst h1 rs1,.non,rfl,rfl,hu=>by obtain⟨b,f,h,_⟩:=I.list h1;exact RcAt.list_none h.isList (je hu)
 | _,_,_,_,_,_,_,.lst h1 rs1,.bl b2,rfl,rfl,hu=>by obtain⟨b,f,h,_⟩:=I.list h1;exact RcAt.list_bool b2 h.isList (je hu)
 | _,_,_,_,_,_,_,.lst h1 rs1,.int i2,rfl,⟨t2,rfl⟩,hu=>by obtain⟨b,f,h,_⟩:=I.list h1;exact RcAt.list_int i2 t2 h.isList (je hu)
 | _,_,_,_,_,_,_,.lst h1 rs1,.str y2,rfl,⟨t2,rfl⟩,hu=>by obtain⟨b,f,h,_⟩:=I.list h1;exact RcAt.list_str y2 t2 h.isList (je hu)
 | _,_,_,_,_,_,_,.lst h1 rs1,.lst h2 rs2,rfl,rfl,hu=>by obtain⟨b,f,h,_⟩:=I.list h1;obtain⟨a,c,g,_⟩:=I.list h2;exact Zf rs1 rs2 f c h.isList g.isList (hu0 hu) (oM I rs1 rs2 f c (hu1 hu))
 | _,_,_,_,_,_,_,.lst h1 rs1,.tup h2 rs2,rfl,rfl,hu=>by obtain⟨b,f,h,_⟩:=I.list h1;obtain⟨a,c,g,_⟩:=I.tuple h2;exact RcAt.list_tuple h.isList g (je hu)
 | _,_,_,_,_,_,_,.tup h1 rs1,.non,rfl,rfl,hu=>by obtain⟨b,f,h,_⟩:=I.tuple h1;exact RcAt.tuple_none h (je hu)
 | _,_,_,_,_,_,_,.tup h1 rs1,.bl b2,rfl,rfl,hu=>by obtain⟨b,f,h,_⟩:=I.tuple h1;exact RcAt.tuple_bool b2 h (je hu)
 | _,_,_,_,_,_,_,.tup h1 rs1,.int i2,rfl,⟨t2,rfl⟩,hu=>by obtain⟨b,f,h,_⟩:=I.tuple h1;exact RcAt.tuple_int i2 t2 h (je hu)
 | _,_,_,_,_,_,_,.tup h1 rs1,.str y2,rfl,⟨t2,rfl⟩,hu=>by obtain⟨b,f,h,_⟩:=I.tuple h1;exact RcAt.tuple_str y2 t2 h (je hu)
 | _,_,_,_,_,_,_,.tup h1 rs1,.lst h2 rs2,rfl,rfl,hu=>by obtain⟨b,f,h,_⟩:=I.tuple h1;obtain⟨a,c,g,_⟩:=I.list h2;exact RcAt.tuple_list h g.isList (je hu)
 | _,_,_,_,_,_,_,.tup h1 rs1,.tup h2 rs2,rfl,rfl,hu=>by obtain⟨b,f,h,_⟩:=I.tuple h1;obtain⟨a,c,g,_⟩:=I.tuple h2;exact Z9 rs1 rs2 f c h g (hu0 hu) (oM I rs1 rs2 f c (hu1 hu))
end
noncomputable def RX(K:Zs):R2:=λx y H Q=>∃d e,Rep K H x d/\Rep K H y e/\gU d<=60/\Q (.bl (lB d e)) H
def Hy(j:X.A.units+64<cLine):m_ X (compareOp .Eq) (RX X.K):=by intro a s i H x y v u Q I f g h;obtain⟨d,e,b,c,hd,q⟩:=h;exact Te I b c f g (by omega) _ _ _ _ ⟨.bl _,H,I,rfl,q⟩
noncomputable def YL(K:Zs):R2:=λx y H Q=>∃d e,Rep K H x (.tuple d)/\Rep K H y (.tuple e)/\gA d<=60/\Q (.bl (!jw d e)) H
theorem Qk(F:X.A.units+64<cLine):m_ X (compareOp .NotEq) (YL X.K):=by
 intro o s E H x y v u Q I z B h;obtain⟨d,e,l,m,hd,q⟩:=h;cases l with
 | tup C g=>
   cases m with
   | tup D i=>
     cases(show v=Value.ref _ from z);cases(show u=Value.ref _ from B);obtain⟨a,b,r,_⟩:=I.tuple C;obtain⟨c,f,w,_⟩:=I.tuple D;have p:=Ci (X:=X) (H:=H) (A:=X.A) g i b f;have n:=RcNeAt.tuples (A:=X.A) (show s.heap.IsTuple _ a.toArray from r) (show s.heap.IsTuple _ c.toArray from w) (by omega)
      (e:=λj=>lB (d.getD j .none) (e.getD j .none)) (λj l m=>by simpa using oM I g i b f (A:=X.A.in1) (by show X.A.units+1+_<_;omega) j (by simpa using l) (by simpa using m));rw[p]at n;exact n _ _ _ _ ⟨.bl _,H,I,rfl,q⟩
theorem pM:∀{a:List PyData},e∈a->gU e<=gA a
 |_::_,.head _=>by simp only[gA];omega
 |_::r,.tail _ h=>by have:=pM h;simp only[gA];omega
noncomputable def Wf:PyData->String
 |.none=>"NoneType"
 |.bool _=>"bool"
 |.int _=>"int"
 |.str _=>"str"
 |.list _=>"list"
 |.tuple _=>"tuple"
 |.dict _=>"dict"
theorem isD(I:Inv X f m H s)(r:Rep X.K H v d)(a:RelV v u)
 (e:PySem.W.kitOne X.K (.type (Wf d)) c=some b)(h:∀tk,Q (.bool b) {s with toks:=tk}):wpAny (model X.prog X.w) A (call (.builtin "isinstance") [u,c]) Q E s:=by
 cases r with
 |non=>cases(show u=Value.none from a);exact abH PySem.W.kitx_none I.kIn aaP e (λz=>nomatch z) h
 |bl y=>cases(show u=Value.bool y from a);exact abH PySem.W.kitx_bool I.kIn aaP e (λz=>nomatch z) h
 |int i=>obtain⟨t,q⟩:=(show∃t,u=Value.int i t from a);cases q;exact abH PySem.W.kitx_int I.kIn aaP e (λz=>nomatch z) h
 |str y=>obtain⟨t,q⟩:=(show∃t,u=Value.str y t from a);cases q;exact abH PySem.W.kitx_str I.kIn aaP e (λz=>nomatch z) h
 | tup g _=>cases(show u=Value.ref _ from a);obtain⟨_,_,⟨o,j,l,_⟩,_⟩:=I.tuple g;exact abH PySem.W.kitx_tuple I.kIn ⟨o,j,l⟩ e (λz=>nomatch z) h
 | lst g _=>cases(show u=Value.ref _ from a);obtain⟨_,_,⟨o,n,j,l,_⟩,_⟩:=I.list g;exact abH PySem.W.kitx_list I.kIn ⟨o,j,l⟩ e (λz=>nomatch z) h
theorem YW(I:Inv X f p H s)(r:Rep X.K H v d)(c:RelV v u)
 (a:s.heap.get? tp=some ⟨.type "tuple",dd,.seq j.toArray n,w⟩)(e:PySem.W.kitAny X.K (.type (Wf d)) j=some b)(h:∀tk,Q (.bool b) {s with toks:=tk}):wpAny (model X.prog X.w) A (call (.builtin "isinstance") [u,.ref tp]) Q E s:=by
 cases r with
 |non=>cases(show u=Value.none from c);exact abI PySem.W.kitx_none I.kIn aaP a e (λz=>nomatch z) h
 |bl y=>cases(show u=Value.bool y from c);exact abI PySem.W.kitx_bool I.kIn aaP a e (λz=>nomatch z) h
 |int i=>obtain⟨t,q⟩:=(show∃t,u=Value.int i t from c);cases q;exact abI PySem.W.kitx_int I.kIn aaP a e (λz=>nomatch z) h
 |str y=>obtain⟨t,q⟩:=(show∃t,u=Value.str y t from c);cases q;exact abI PySem.W.kitx_str I.kIn aaP a e (λz=>nomatch z) h
 | tup g _=>cases(show u=Value.ref _ from c);obtain⟨_,_,⟨o,l,m,_⟩,_⟩:=I.tuple g;exact abI PySem.W.kitx_tuple I.kIn ⟨o,l,m⟩ a e (λz=>nomatch z) h
 | lst g _=>cases(show u=Value.ref _ from c);obtain⟨_,_,⟨o,n,l,m,_⟩,_⟩:=I.list g;exact abI PySem.W.kitx_list I.kIn ⟨o,l,m⟩ a e (λz=>nomatch z) h
noncomputable def V6(K:Zs):List V->Hp->VK->Prop:=λa H Q=>∃x n d b,a=[x,.ty n]/\Rep K H x d/\PySem.W.kitOne K (.type (Wf d)) (.type n)=some b/\Q (.bl b) H
theorem ig:jX X (.builtin "isinstance") (V6 X.K):=by
 intro a s f H g i Q I r h;obtain⟨x,n,d,b,rfl,c,e,q⟩:=h;cases r with
 | cons r1 r=>
   cases r with
   | cons r2 r=>cases r;cases(show _=Value.type n from r2);exact isD I c r1 e λtk=>⟨.bl b,H,I.tok tk,rfl,q⟩
noncomputable def UJ(K:Zs):List V->Hp->VK->Prop:=λc H Q=>∃x a n m d b,c=[x,.ref a]/\H a=some (.tup [.ty n,.ty m])/\Rep K H x d/\PySem.W.kitAny K (.type (Wf d)) [.type n,.type m]=some b/\Q (.bl b) H
theorem uF:jX X (.builtin "isinstance") (UJ X.K):=by
 intro j s C H D E Q I r h;obtain⟨x,a,n,m,d,b,rfl,l,p,e,q⟩:=h;cases r with
 | cons r1 r=>
   cases r with
   | cons r2 r=>
     cases r;cases(show _=Value.ref a from r2);obtain⟨z,v,c,o,w,f,k,g⟩:=(show iw X.prog X.w H s.heap a (.tup [.ty n,.ty m])from I.hok a _ l);obtain⟨cls,dd,i,B⟩:=o;simp only at f g;subst f g;cases c with
     | cons y c=>
       cases c with
       | cons A c=>cases c;cases(show _=Value.type n from y);cases(show _=Value.type m from A);exact YW I p r1 w e λtk=>⟨.bl b,H,I.tok tk,rfl,q⟩
theorem yq:∀{bs:List Bool},a=bs.map V.bl->Vals a c->c=bs.map Value.bool:=by
 intro bs e r;induction bs generalizing a c with
 |nil=>subst e;cases r;rfl
 | cons b t d=>
   subst e;cases r with
   |cons r1 r=>rw[aat,d rfl r,(show _=Value.bool b from r1)]
theorem range_all(bs:List Bool):(List.range bs.length).all (λi=>bs.getD i false)=bs.all id:=by
 induction bs with
 |nil=>rfl
 |cons b t a=>rw[aav,acm,abZ,List.all_map,abZ,<-a];rfl
theorem range_any(bs:List Bool):(List.range bs.length).any (λi=>bs.getD i false)=bs.any id:=by
 induction bs with
 |nil=>rfl
 |cons b t a=>rw[aav,acm,abw,List.any_map,abw,<-a];rfl
theorem qD{bs:List Bool}:TruthOf P w A (λi v=>((bs.map Value.bool).toArray)[i]?=some v) λi=>bs.getD i false:=λi v s Q E a c=>by
 dsimp only at a c;rw[List.getElem?_toArray,aao]at a;cases e:bs[i]? with
 |none=>rw[e]at a;cases a
 | some b=>rw[e]at a;cases a;rw[acl,e]at c;exact aae c
noncomputable def O6(K:Zs)(f:List Bool->Bool):List V->Hp->VK->Prop:=λb H Q=>∃a bs,b=[.ref a]/\fj K H a (bs.map V.bl)/\Q (.bl (f bs)) H
theorem uB{X:Cx}(m:X.calm=true):jX X (.builtin "all") (O6 X.K λbs=>bs.all id):=by
 intro f s x H y z Q I r h;obtain⟨a,bs,rfl,g,q⟩:=h;cases r with
 | cons r1 r=>
   cases r;cases(show _=Value.ref a from r1);obtain⟨i,j,p,w⟩:=I.list g;have e:=yq rfl j;subst e;refine PySem.call_all_walk (acA p.isList ?_);have c:a≠s.heap.objs.size:=(by obtain⟨o,d,_⟩:=p.isList;exact aay (aaq d));refine⟨s.heap.objs.size,_,_,_,_,_,_,rfl,Walks.list (A:=X.A.in1) (I.ok.hd m) s.heap.objs.size a c (bs.map Value.bool).toArray,⟨⟨_,aaC _ rfl,rfl,rfl⟩,?_⟩,qD,λv tk hk=>?_⟩
   ·obtain⟨o,d,l,n,hd⟩:=p.isList;exact⟨o,aan _ d,l,n,hd⟩
   ·rw[aau,aad,range_all];exact⟨.bl _,H,I.kept λb o e=>hk b o (by simp;exact aay (aaq e)) (aan _ e),rfl,q⟩
theorem Ec{X:Cx}(m:X.calm=true):jX X (.builtin "any") (O6 X.K λbs=>bs.any id):=by
 intro f s x H y z Q I r h;obtain⟨a,bs,rfl,g,q⟩:=h;cases r with
 | cons r1 r=>
   cases r;cases(show _=Value.ref a from r1);obtain⟨i,j,p,w⟩:=I.list g;have e:=yq rfl j;subst e;refine PySem.call_any_walk (acA p.isList ?_);have c:a≠s.heap.objs.size:=(by obtain⟨o,d,_⟩:=p.isList;exact aay (aaq d));refine⟨s.heap.objs.size,_,_,_,_,_,_,rfl,Walks.list (A:=X.A.in1) (I.ok.hd m) s.heap.objs.size a c (bs.map Value.bool).toArray,⟨⟨_,aaC _ rfl,rfl,rfl⟩,?_⟩,qD,λv tk hk=>?_⟩
   ·obtain⟨o,d,l,n,hd⟩:=p.isList;exact⟨o,aan _ d,l,n,hd⟩
   ·rw[aau,aad,range_any];exact⟨.bl _,H,I.kept λb o e=>hk b o (by simp;exact aay (aaq e)) (aan _ e),rfl,q⟩
theorem Jz:∀{ys:Y2},Vals (ys.map V.str) a->StrsAre a ys:=by
 intro ys;induction ys generalizing a with
 |nil=>intro r;cases r;exact .nil
 | cons y t b=>
   intro r;cases r with
   | cons r1 r=>obtain⟨tk,e⟩:=(show∃t,_=Value.str y t from r1);subst e;exact .cons _ _ (b r)
noncomputable def rJoin(K:Zs):V->List V->Hp->VK->Prop:=λx vs H Q=>∃z a ys,x=.str z/\vs=[.ref a]/\fj K H a (ys.map V.str)/\(ys.map (·.length)).sum+ys.length*z.length<=16777216/\Q (.str (Txt.join z ys)) H
theorem BL:Kf X "str.join" (rJoin X.K):=by
 intro b s n H x vs v o Q I j l h;obtain⟨z,a,ys,rfl,rfl,d,f,q⟩:=h;obtain⟨t,e⟩:=(show∃t,v=Value.str z t from j);subst e;cases l with
 | cons r1 r=>cases r;cases(show _=Value.ref a from r1);obtain⟨g,i,p,m⟩:=I.list d;exact join_list p.isList (by simpa using Jz i) f λc k=>⟨.str _,H,I.tok k,⟨c,rfl⟩,q⟩
noncomputable def XH(f:Str->Bool):V->List V->Hp->VK->Prop:=λx vs H Q=>∃z,x=.str z/\vs=[]/\Q (.bl (f z)) H
def zW:Kf X "str.isascii" (XH λx=>x.cps.all (·<128)):=by intro a s d H x vs v f Q I b c h;obtain⟨z,rfl,rfl,q⟩:=h;obtain⟨t,e⟩:=(show∃t,v=Value.str z t from b);subst e;cases c;exact call_gives PySem.F.slot_str_isascii (typeIs_str _ _ _) PySem.F.entry_str_isascii (PySem.F.args_str_isascii_1 _) (gives_str_isascii z t) ⟨.bl _,H,I,rfl,q⟩
def Aq:Kf X "str.isalpha" (XH λx=>x.length >0&&x.cps.all Unicode.isAlpha):=by intro a s d H x vs v f Q I b c h;obtain⟨z,rfl,rfl,q⟩:=h;obtain⟨t,e⟩:=(show∃t,v=Value.str z t from b);subst e;cases c;exact call_gives PySem.F.slot_str_isalpha (typeIs_str _ _ _) PySem.F.entry_str_isalpha (PySem.F.args_str_isalpha_1 _) (gives_str_isalpha z t) ⟨.bl _,H,I,rfl,q⟩
def zb:Kf X "str.islower" (XH λx=>x.cps.any Unicode.isLower&&!x.cps.any λc=>Unicode.isUpper c||Unicode.isTitle c):=by intro a s f H x vs v g Q I b d h;obtain⟨z,rfl,rfl,q⟩:=h;obtain⟨t,e⟩:=(show∃t,v=Value.str z t from b);subst e;cases d;exact call_gives PySem.F.slot_str_islower (typeIs_str _ _ _) PySem.F.entry_str_islower (PySem.F.args_str_islower_1 _) (gives_str_islower z t) ⟨.bl _,H,I,rfl,q⟩
structure Sy(osc:ZU)(N:Y2)(scope:ZU)(own:Y2)(js:List Nat)(N':Y2):Prop where
 kind:scope.kind=.function
 nocell:∀y∈scope.names,y.2≠.cell
 names:∀y∈scope.names,y.2=.local->scope.names.lookup y.1=some .local
 free:∀y∈scope.names,y.2=.free->osc.names.lookup y.1=some .cell\/osc.names.lookup y.1=some .free
 nm:N'=own++js.map λj=>N.getD j Str.empty
 fr:∀j∈js,j<N.length/\(N.getD j Str.empty,NameKind.free)∈scope.names/\∀y∈scope.names,y.1=N.getD j Str.empty->y.2=.free
def dX.of(e:X.env.scope=osc)(f:X.N=N)(h:Sy osc N a own d c):dX X a own d c:=by subst e f;exact⟨h.kind,h.nocell,h.names,h.free,h.nm,λj b=>⟨(h.fr j b).1,(h.fr j b).2.1,λk hk=>(h.fr j b).2.2 _ hk rfl⟩⟩
mutual
noncomputable def jO:PyData->Nat
 |.tuple a=>max a.length (i_ a)
 |.list a=>max a.length (i_ a)
 |_=>0
noncomputable def i_:List PyData->Nat
 |[]=>0
 |d::r=>max (jO d) (i_ r)
end
theorem rZ:∀{a:List PyData},e∈a->jO e<=i_ a
 |_::_,.head _=>by simp only[i_];omega
 |_::r,.tail _ h=>by have:=rZ h;simp only[i_];omega
def jz(b:Gl X x)(c:X.mg x=none)(d:bootBuiltins x=some (.type n))(e:x≠"__name__":=by decide)(hd:(x==("__debug__":Str))=false:=by decide):PE X (.Name x a) (tC (.ty n)):=Ju (v:=.ty n) b c d rfl e hd
def j5{c:Bool}{A B:Prop}(h:c=true)(q:A):if c=true then A else B:=by rw[aac h];exact q
def gW{c:Bool}{A B:Prop}(h:c=false)(q:B):if c=true then A else B:=by rw[aab (by rw[h];exact aaH)];exact q
noncomputable def Mm(r s f:R2)(v w A B:TE):TE:=λe H Q=>v e H λx l=>w e l λy m=>r x y m λz g=>∃k,z=.bl k/\
 (if k=true then A e g λh n=>s y h n λo i=>∃j,o=.bl j/\(if j=true then B e i λp q=>f h p q Q else Q (.bl false) i)else Q (.bl false) g)
theorem CG(ho:m_ X (compareOp op) r)(p:m_ X (compareOp j) G)(m:m_ X (compareOp g) l)(ha:PE X a ta)(hb:PE X b tb)(hc:PE X c tc)(hd:PE X d td)
 (hm:lastMarks [op,j,g] [b,c,d]=false:=by with_unfolding_all rfl):PT X (.Compare a [op,j,g] [b,c,d] pos) (uN (Mm r G l ta tb tc td)):=by
 intro f s i H Q I h;refine isTrue_chain (gH (ha f s i H _ I h) λv J⟨x,L,M,r1,q1⟩=>test_link (gH (hb f J i L _ M q1) λu N⟨y,O,P,r2,q2⟩=>gH (ho f N i O x y v u _ P r1 r2 q2) λd' R⟨z,q,w,r3,k,e,A⟩=>?_)) hm;subst e;cases r3;refine aa0 ?_;cases k with
 | false=>obtain⟨k',n,o⟩:=A;cases n;exact ite_ff ⟨q,w,o⟩
 | true=>
   refine ite_tt (test_link (gH (hc f R i q _ w A) λB S⟨C,T,U,r4,W⟩=>gH (p f S i T y C u B _ U r2 r4 W) λY Z⟨z2,D,E,r5,k2,e2,F⟩=>?_));subst e2;cases r5;refine aa0 ?_;cases k2 with
   | false=>obtain⟨k',n,o⟩:=F;cases n;exact ite_ff ⟨D,E,o⟩
   | true=>refine ite_tt (test_last (gH (hd f Z i D _ E F) λw2 s6⟨z3,H6,I6,r6,q6⟩=>gH (m f s6 i H6 C z3 B w2 _ I6 r4 r6 q6) λd3 s7⟨z4,H7,I7,r7,k3,e3,q7⟩=>?_));subst e3;cases r7;exact aa0 ⟨H7,I7,q7⟩
abbrev TF:=Str->St->Hp->VK->Prop
noncomputable def PF(X:Cx)(d:YU)(t:TF):Prop:=
 ∀(b:Str)(a:YN)(s:Zp)(c:St)(H:Hp)(Q:VK),Inv X a c H s->t b c H Q->wpAny (model X.prog X.w) X.A (joinParts b (evalEach d X.env)) (EP X a c Q) X.xe s
def Xz(x:V)(y:Str):Prop:=(x=.str y/\y.length<=sizeLine)\/∃i:Int,x=.int i/\i.natAbs.log2<1920/\y=Str.ofString (toString i)
def PJ:PF X [] (λa _ H Q=>a.length<=sizeLine/\Q (.str a) H):=λa b s c H Q I h=>joinParts_nil ⟨.str a,H,I.tok _,⟨_,rfl⟩,h.2⟩ h.1
def Io(d:PF X g t)(f:evalEach (.Constant (.str x) j e::g) X.env=eval (.Constant (.str x) j e) X.env::evalEach g X.env:=by rfl):
 PF X (.Constant (.str x) j e::g) (λa c H Q=>(a++x).length<=sizeLine/\t (a++x) c H Q):=by
 intro a b s c H Q I h;rw[f];exact joinParts_cons (Calls.Constant_str ⟨h.1,d (a++x) b _ c H Q (I.tok _) h.2⟩)
def zg(n:PE X e A)(j:PF X z t)(o:evalEach (.FormattedValue e (-1) none w::z) X.env=eval (.FormattedValue e (-1) none w) X.env::evalEach z X.env:=by rfl):
 PF X (.FormattedValue e (-1) none w::z) (λb c H Q=>A c H λx d=>∃y,Xz x y/\(b++y).length<=sizeLine/\t (b++y) c d Q):=by
 intro b a s c H Q I h;rw[o];refine joinParts_cons (FormattedValue_plain (gH (n a s c H _ I h) λv p⟨x,d,f,r1,y,fm,g,q⟩=>?_));rcases fm with⟨rfl,l⟩|⟨i,rfl,m,rfl⟩
 ·obtain⟨tk,rfl⟩:=r1;exact formatField_str (λr tk=>⟨g,j _ a _ c d Q (f.tok tk) q⟩) l
 ·obtain⟨tk,rfl⟩:=r1;exact formatField_int_small m ⟨g,j _ a _ c d Q (f.tok _) q⟩
def Sh(t:TF):TE:=λa H Q=>t Str.empty a H Q
def M9(h:PF X (b::c::e) t)(g:evalEach (b::c::e) X.env=eval b X.env::eval c X.env::evalEach e X.env:=by rfl):PE X (.JoinedStr (b::c::e) i) (Sh t):=by intro a s d H Q I f;refine JoinedStr_many ?_;rw[<-g];exact h _ a s d H Q I f
section
variable{X:Cx}{CX:Bp}{k:Nat}{f C:Zl}{fd:ZB}{ps:Y2}{sp:Sp}{E:XK}
theorem Kr(F:dm X.prog X.w X.K X.mg X.base CX k f fd ps sp)(m:eZ k A')(i:A'.frames=X.A.frames)(n:Binds X.K fd ps [])(o:jt CX X E)
 (I:Inv X a g H s)(r:Vals vs us)(h:sp vs H Q E):wpAny (model X.prog X.w) A' (call (.ref f) us) (EP X a g Q) X.xe s:=by
 have l:us.length=ps.length:=r.length.symm.trans (F.len _ _ _ _ h);have d:=n s us I.kIn (by rw[aaQ];exact l);rw[aaQ]at d;have b:=I.env0;refine abW (codeAny_mono (F.run A' X.stack s H ⟨us,[]⟩ us vs Q E m ⟨i.trans b.frames,b.mod,b.bs,b.bsz,b.funs,b.frf,b.hok,b.bare⟩ d r h) λz j c=>?_)
 match z,c with
 |.error e,c=>exact o a g H s e j I c
 |.ok (.ret u),c=>exact I.after c
structure ZG(X:Cx)(CX:Bp)(E:XK)(C:Zl)(name:Str)(k:Nat)(f:Zl)(fd:ZB)(ps:Y2)(sp:Sp):Prop where
 at_:PySem.W.findIn X.K (.ref C) name=some (some (.ref f))
 fn:PySem.W.isFn X.K (.ref f)=true
 ok:dm X.prog X.w X.K X.mg X.base CX k f fd ps sp
 b:Binds X.K fd ps []
 ps:jt CX X E
def Inv.inst(I:Inv X b d H s)(e:H a=some (.ins C c fs)):∃od,PySem.W.InstAt s.heap a (PySem.W.instObj C c) C (some od):=by obtain⟨g,O,_⟩:=qQ I.hok e;obtain⟨od,J,_⟩:=O.look;exact⟨od,J⟩
def Hv(h:EP X a c (λv b=>∃n:Nat,v=.int n/\n<1000000/\Q (.int n) b) v d):PySem.W.LenBack (EP X a c Q) v d:=by obtain⟨y,b,I,r,n,rfl,e,q⟩:=h;obtain⟨t,rfl⟩:=r;exact⟨⟨Int.natCast_nonneg _,by omega⟩,⟨.int n,b,I.tok _,⟨_,rfl⟩,q⟩⟩
noncomputable def U3(C:Zl)(e:Sp)(E:XK):List V->Hp->VK->Prop:=λb H Q=>∃a d fs,b=[.ref a]/\H a=some (.ins C d fs)/\e [.ref a] H (λv c=>∃n:Nat,v=.int n/\n<1000000/\Q (.int n) c) E
def D_(S:ZG X CX E C "__len__" k f fd ps sp)(g:eZ (k+1) X.A):jX X (.builtin "len") (U3 C sp E):=by intro b s j H l d Q I r h;obtain⟨a,i,fs,rfl,c,q⟩:=h;obtain⟨u,rfl,e⟩:=vals1 r;cases(show u=Value.ref a from e);obtain⟨od,J⟩:=I.inst c;obtain⟨m,F⟩:=I.fr;exact PySem.W.len_K F I.ok.mod.kin J S.at_ S.fn (gH (Kr (us:=[.ref a]) (vs:=[.ref a]) S.ok g.in1 rfl S.b S.ps I (.cons rfl .nil) q) λ_ _=>Hv)
end
end L2
namespace HT
open PySem PySem.Spec PyProof.Rows
def Dg{s:Zp}{t i:Zl}{d:YA}{a b c:ZI}{e step:Int}{n:Nat}{Q:ZY}(h:IsTup s.heap t d)(L:s.heap.IsSliceOf i a b c)
 (M:∀(D:ZO)(y:Int×Int×Nat->Shared->Prop)(F:ZY),y (e,step,n) s->wpAny (model P w) D (Builtin.Slice.sliceApplied (.ref i) (pure (d.size:Int))) y F s)
 (C:(e==0&&step==1&&n==d.size)=true->Q (.ref t) s)
 (N:¬(e==0&&step==1&&n==d.size)=true->((List.range n).filterMap λ(k:Nat)=>d[(e+(k:Int)*step).toNat]?).length<=sizeLine/\Q (.ref s.heap.objs.size) {s with heap:=s.heap.push {cls:=.type "tuple",data:=.seq ((List.range n).filterMap λ(k:Nat)=>d[(e+(k:Int)*step).toNat]?).toArray}}):
 wpAny (model P w) A (getItem (.ref t) (.ref i)) Q E s:=by
 obtain⟨G,o,p,H⟩:=id L;have l:s.TypeIs (.ref i) "slice":=⟨G,o,p⟩;obtain⟨O,q,r,nt,I⟩:=id h;unfold getItem
 try with_reducible refine abg ?_
 first|refine aaa (aae ?_)|skip
 refine aaa (acJ h.typeIs (by decide) (aaa (wpAny_callSpecial?_slot (name:=Str.ofString "__getitem__") h.typeIs abE (abc abE h.typeIs entry_tuple_getitem ?_ (args_tuple_getitem _ _)))));show wpAny _ _ (Builtin.Tuple.tupleItemsOf (.ref t)>>=_) _ _ s;refine aaa (tupleItemsOf_ h (aaa (wpAny_typeOf l ?_)));rw[aac (by decide)];refine aaa (M _ _ _ ?_);show wpAny _ _ (if(e==0&&step==1&&n==d.size)=true then _ else _) _ _ s;by_cases g:(e==0&&step==1&&n==d.size)=true
 ·rw[aac g];have B:wpAny (model P w) A.in1 (Builtin.Tuple.tupleIsExact (.ref t)) (λb j=>b=true/\j=s) E s:=by unfold Builtin.Tuple.tupleIsExact;refine aaa (wpAny_typeOf_ref q ?_);rw[r];exact aae ⟨rfl,rfl⟩
  first
   |refine aaa (aaG B (λb j x=>?_) λ_ _ z=>z)
   |refine aaa (aaa (aaG B (λb j x=>?_) λ_ _ z=>z))
  obtain⟨rfl,rfl⟩:=x;rw[aac rfl]
  first
   |exact aaa (abm (aae ⟨_,rfl,aae (C g)⟩))
   |exact aaa (abm (aaa (aae (aae ⟨_,rfl,aae (C g)⟩))))
 ·rw[aab g];obtain⟨J,v⟩:=N g;have f:sizeOk (.seq ((List.range n).filterMap λ(k:Nat)=>d[(e+(k:Int)*step).toNat]?).toArray):=by show(_:YA).size<=sizeLine;rw[aau];exact J
  first
   |exact aaa (m:=Builtin.Tuple.tupleExact _) (aa2 (aae ⟨_,rfl,aae v⟩) f)
   |exact aaa (m:=Builtin.Tuple.tupleExact _) (aa2 (aaa (aae (aae ⟨_,rfl,aae v⟩))) f)
   |exact aaa (aaa (m:=Builtin.Tuple.tupleExact _) (aa2 (aae (aae ⟨_,rfl,aae v⟩)) f))
end HT
namespace L2
open PySem PySem.Spec PyProof.Rows PySem.SeqAt
noncomputable def Uv(K:Zs):V->Option Int->Option Int->Hp->VK->Prop:=λx c d H Q=>∃a b,x=.ref a/\gf K H a b/\(nT b c d=b->Q (.ref a) H)/\∀p,H p=none->Q (.ref p) (upd H p (.tup (nT b c d)))
def pL{X:Cx}:Wr X (Uv X.K):=by
 intro d s z H x v vl A i j B Q I o l p q h;obtain⟨a,b,rfl,m,q1,q2⟩:=h;by_cases f:HT.jB b.length 0 i=0/\HT.jB b.length b.length j=b.length
 ·cases(show v=Value.ref a from o);obtain⟨g,r,n,F⟩:=I.tuple m;have c:g.toArray.size=b.length:=by rw[aau];exact r.length.symm
  refine⟨"tuple",_,abE.lookup,n.typeIs,?_⟩;have e:nT b i j=b:=by unfold nT;rw[f.1,f.2,List.drop_zero,Nat.sub_zero,aaL]
  refine HT.Dg n l (λC D E w=>HT.my l p q w) (λ_=>⟨.ref a,H,I,rfl,q1 e⟩) λy=>(y ?_).elim;rw[c,f.1,f.2];simp
 ·exact QQ d s z H _ v vl A i j B Q I o l p q ⟨a,b,rfl,m,f,q2⟩
section
variable{X:Cx}{eH:YN}{σ:St}{H:Hp}{s:Zp}{h':ZN}
def Inv.turnLaid{a:Zl}{o:HO}{D:Nat}{fp:YI}(I:Inv X eH σ H s)(k:∀b u,b∉fp->s.heap.get? b=some u->h'.get? b=some u)(F:∀b∈fp,∃u,h'.get? b=some u)(g:∀b∈fp,km X eH H b)(h:s.heap.objs.size<=a)(new:iw X.prog X.w (upd H a o) h' a o):
 Inv X eH σ (upd H a o) {s with heap:=h',toks:=D}:=by
 have l:H a=none:=I.hok.fresh h;have off:∀b u,H b=some u->b∉fp:=λb u e z=>by rw[(g b z).1]at e;cases e
 have up:∀b u,H b=some u->(upd H a o) b=some u:=λb u e=>by rw[c7 (dg e l)];exact e
 refine I.step (g':=s.gens) (d':=s.drawn) (ch:=fp) (λb f=>?_) (λb u _ _ d e _=>k b u d e) (λb u _ _ d e _=>⟨u.slots,k b u d e⟩) (λb u _ e n=>?_) (λb u d e=>⟨u,k b u d e⟩) (λb i e=>up b _ e) (λb u z e=>up b _ e) (λb E e=>⟨#[],by rw[up b _ e];simp⟩) (λm j=>?_) (λb u e=>?_) I.bare
 ·obtain⟨_,p,_,w,x,y⟩:=g b f;exact⟨w,p,x,y⟩
 ·rw[c7 (aay (aaF (aaq e) h))];exact n
 ·obtain⟨u,A,B,C,r⟩:=j;exact⟨u,A,B,k _ u (λz=>(g _ z).2.1 rfl) C,r⟩
 ·by_cases f:b=a
  ·subst f;rw[a_]at e;cases e;exact new
  ·rw[c7 f]at e;refine(I.hok b u e).stay (λc v d q=>k c v ?_ q) (λc q=>up c _ q) λc i q=>up c _ q;rcases d with rfl|z
   ·exact off _ u e
   ·exact off c _ z
def ni(b:s.heap.IsTupleIter c l i)(m:s.heap.IsTuple l a)(n:a[i]?=some x)
 (p:∀g,g.IsTupleIter c l (i+1)->Heap.SameBut c s.heap g->Q x {s with heap:=g}):wpAny (model d w) A (Builtin.SmallTypes.nextOf (.ref c)) Q E s:=by
 obtain⟨o,e,j,hd⟩:=id b;obtain⟨ol,f,_,nl,h⟩:=m;unfold Builtin.SmallTypes.nextOf;refine aaa (wpAny_callSpecial?_slot (name:=Str.ofString "__next__") b.typeIs aco (abc aco b.typeIs F.entry_tuple_iterator_next ?_ (F.args_tuple_iterator_next_1 _)));show wpAny _ _ (field (.ref c) 0>>=_) _ _ s;refine aaa (aaN e hd (x:=.ref l) rfl ?_);show wpAny _ _ (if(Value.ref l==Value.none)=true then _ else _) _ _ s;rw[aab (show¬((Value.ref l==Value.none)=true)from nofun)];show wpAny _ _ (field (.ref c) 1>>=_) _ _ s;refine aaa (aaN e hd (x:=.int i 0) rfl ?_);show wpAny _ _ (seqItems? (.ref l)>>=_) _ _ s;refine aaa (abJ f h ?_);simp only[acI,n];refine aaa (wpAny_setField e hd (by simp) (aae ⟨x,rfl,aae (p _ ⟨_,Heap.get?_update_self _ e (Obj.isFreed_of_fields (Obj.data_mapFields hd _)),(Obj.cls_mapFields ..).trans j,by rw[Obj.data_mapFields hd];simp[rawInt]⟩ (Heap.SameBut.update ..))⟩))
def mF(p:A.handled=none)(c:s.heap.IsTupleIter f l i)(q:s.heap.IsTuple l b)(r:b[i]?=none)
 (v:∀g e,Heap.ExtBut f s.heap g->(∃o,g.get? e=some o/\o.cls=.type "StopIteration")->E (.ref e) {s with heap:=g}):wpAny (model d w) A (Builtin.SmallTypes.nextOf (.ref f)) Q E s:=by
 obtain⟨o,h,y,hd⟩:=id c;obtain⟨ol,j,_,nl,n⟩:=q;unfold Builtin.SmallTypes.nextOf;refine aaa (wpAny_callSpecial?_slot (name:=Str.ofString "__next__") c.typeIs aco (abc aco c.typeIs F.entry_tuple_iterator_next ?_ (F.args_tuple_iterator_next_1 _)));show wpAny _ _ (field (.ref f) 0>>=_) _ _ s;refine aaa (aaN h hd (x:=.ref l) rfl ?_);show wpAny _ _ (if(Value.ref l==Value.none)=true then _ else _) _ _ s;rw[aab (show¬((Value.ref l==Value.none)=true)from nofun)];show wpAny _ _ (field (.ref f) 1>>=_) _ _ s;refine aaa (aaN h hd (x:=.int i 0) rfl ?_);show wpAny _ _ (seqItems? (.ref l)>>=_) _ _ s;refine aaa (abJ j n ?_);simp only[acI,r];refine aaa (abm (aaa (wpAny_setField h hd (by simp) ?_)));show wpAny _ _ (newExc (.type "StopIteration") []>>=_) _ _ _;refine aaa ?_;simp only[newExc,newTuple];refine aaa (aa2 ?_ (by size_fits));refine aaa (m:=firstArgMember _ _) (wpAny_of_eq (a:=Value.none) (by first|rfl|(simp only[firstArgMember];rfl)) (aa2 ?_ (by size_fits)));simp only[raiseNew];refine aaa (wpAny_handled ?_)
 first|rw[show A.in1.handled=none from p]|rw[p]
 exact aaa (aae (wpAny_throw (v _ _ (((Heap.SameBut.update ..).extBut.push _).push _) ⟨_,aaC _ rfl,rfl⟩)))
def Rr(y:A.handled=none)(c l:Zl)(d:l≠c)(a:YA):Draws prog w A c [c,l] a.size (λi v=>a[i]?=some v) (λi h=>h.IsTupleIter c l i/\h.IsTuple l a)where
 live:=λ_ _ b=>let⟨o,q,_⟩:=b.1;⟨o,q⟩
 frame:=λ_ _ _ b hk=>⟨b.1.at λo e=>hk c (by simp) o e,let⟨o,e,r⟩:=b.2;⟨o,hk l (by simp) o e,r⟩⟩
 item:=λi s Q E f b m=>ni b.1 b.2 (x:=a[i]) (by simp[f]) λg n j=>m _ g s.toks (by simp[f]) ⟨n,let⟨o,e,r⟩:=b.2;⟨o,(j.2 l d).trans e,r⟩⟩ j
 done:=λs Q E b p=>mF y b.1 b.2 (by simp) p
set_option tactic.hygienic true in
def Dp(l:Zl)(a:YA)(n:Nat)(e:YE)(p:YV):
 Meets (Builtin.«enumerate.__new__» ⟨[.type "enumerate",.ref l],[]⟩) (λ_ R s=>s.heap.get? l=some {cls:=.type "tuple",dict:=e,data:=.seq a n,slots:=p}/\R (.ok (.ret (.ref (s.heap.push {cls:=.type "tuple_iterator",data:=.fields #[.ref l,.int 0 0]}).objs.size))) {s with heap:=(s.heap.push {cls:=.type "tuple_iterator",data:=.fields #[.ref l,.int 0 0]}).push {cls:=.type "enumerate",data:=.fields #[.none,.bool false,.ref s.heap.objs.size,rawInt 0,.none,.none]}}):=
 .of_wp λf w A R s h=>by
  obtain⟨m,g,d,tk,o⟩:=s;obtain⟨b,h⟩:=h;have i:=sub_enumerate;have j:Heap.IsTuple (Shared.heap ⟨m,g,d,tk,o⟩) l a:=⟨_,b,rfl,n,rfl⟩
  wp_walk using abK b
  refine wpAny_stack_any λq=>aae ?_;split
  ·rename_i c _ _ _ _ _;cases(c==Value.type "enumerate")<;>(wp_walk using abK b,abT j;exact⟨_,rfl,h⟩)
  ·wp_walk using abK b,abT j
   exact⟨_,rfl,h⟩
def zH(j:s.heap.IsTuple l a)
 (h:∀g,IsEnum g (s.heap.objs.size+1) s.heap.objs.size 0 .none->g.IsTupleIter s.heap.objs.size l 0->(∀b o,s.heap.get? b=some o->g.get? b=some o)->Q (.ref (s.heap.objs.size+1)) {s with heap:=g}):wpAny (model c w) A (call (.type "enumerate") [.ref l]) Q E s:=by
 obtain⟨⟨_,dd,_,f⟩,i,rfl,n,rfl⟩:=id j;refine callType_new F.called_enumerate (by decide) (F.typeCall_enumerate_1 _) (F.newCall_enumerate_1 _) (λobj=>F.args_object_init_2 obj _) F.entry_enumerate_new (Dp l a n dd f) ⟨i,?_⟩;have e:(s.heap.push {cls:=.type "tuple_iterator",data:=.fields #[.ref l,.int 0 0]}).objs.size=s.heap.objs.size+1:=aa5 ..;have d:=aaC (s.heap.push {cls:=.type "tuple_iterator",data:=.fields #[.ref l,.int 0 0]}) (o:={cls:=.type "enumerate",data:=.fields #[.none,.bool false,.ref s.heap.objs.size,rawInt 0,.none,.none]}) rfl;rw[e]at d;show _/\_;rw[e];exact⟨⟨_,d,rfl⟩,h _ d ⟨_,aan _ (aaC _ rfl),rfl,rfl⟩ λb o x=>aan _ (aan _ x)⟩
def Kw{d:Type}{a b c:d}(h:c∈[a,b]):c=a\/c=b:=by simpa using h
noncomputable def Rh(S:Hp->List V->Prop):It:=
 ⟨λi H=>∃a x,S H a/\a[i]?=some x,λi H v b=>∃p x,H p=none/\v=.ref p/\(∀a,S H a->a[i]?=some x)/\b=upd H p (.tup [.int i,x]),λi H=>∃a,S H a/\a.length=i⟩
abbrev Za(K:Zs)(a:Zl):It:=Rh λH=>gf K H a
def zR{P:ZE}{w:ZH}{K:Zs}{M:YU}{k1}{pos:Pos}{S:Hp->List V->Prop}{A:Nat->Heap->Prop}(a e f:Zl)(p:e≠f)(hO:∀i h,A i h->∃o,h.get? f=some o/\∀v,o.data≠.cell v)
 (kp:∀i h N,A i h->(∀o,h.get? f=some o->N.get? f=some o)->A i N)
 (hS:∀{X:Cx}{i:Nat}{j:YN}{O:St}{H:Hp}{s:Zp}{c:ZI}{F:List V},X.prog=P->X.w=w->X.K=K->X.A.handled=none->Inv X j O H s->A i s.heap->IsEnum s.heap e f i c->S H F->(∀ys,S H ys->ys=F)/\a≠e/\∃(l:YA)(T:Heap->Prop),Vals F l.toList/\T s.heap/\Draws P w X.A.in1 f [f,a] l.size (λi v=>l[i]?=some v) λi h=>A i h/\T h):
 Turn P w K (.Tuple M k1 pos) (Rh S) [e,f] e (λi h=>(∃c,IsEnum h e f i c)/\A i h)where
 mem:=by simp
 obj:=λi h⟨⟨c,Y⟩,Z⟩b d=>by
  rcases Kw d with rfl|rfl
  ·exact⟨_,Y,nofun⟩
  ·exact hO _ _ Z
 keep:=λi h N⟨⟨c,Y⟩,Z⟩k=>⟨⟨c,k e (by simp) _ Y⟩,kp _ _ _ Z (k f (by simp))⟩
 item:=by
  intro X Q R U hc i j s O H E I L⟨⟨c,n⟩,r⟩⟨F,x,hq,W⟩;obtain⟨un,J,l,T,rv,hT,D⟩:=hS Q R U (I.ok.hd hc) I r n hq;subst Q R U;obtain⟨u,hu,ru⟩:=rv.get W;rw[acL]at hu;refine wpAny_pyNext_enum_itemD D n ⟨r,hT⟩ (Array.getElem?_eq_some_iff.mp hu).1 p (by simp[p,aaI J]) λy g tk hy ho m B ab hk=>?_;obtain rfl:=aaW (hy.symm.trans hu);have lt:∀b∈[e,f],b<s.heap.objs.size:=λb d=>by
   rcases Kw d with rfl|rfl
   ·exact aaq n
   ·obtain⟨o,z,_⟩:=hO _ _ r;exact aaq z
  have I1:Inv X j O (upd H s.heap.objs.size (.tup [.int i,x])) {s with heap:=g,toks:=tk+1}:=by
   refine I.turnLaid (fp:=[e,f]) (λb o d z=>hk b o (λq=>d (by simp[q])) (λq=>d (by simp[q])) z) (λb d=>?_) L (aaf _) ⟨by show 2<=sizeLine;decide,[.int i tk,y],.cons ⟨_,rfl⟩ (.cons ru .nil),⟨_,B,rfl,_,rfl⟩⟩;rcases Kw d with rfl|rfl
   ·exact⟨_,ho⟩
   ·obtain⟨o,z,_⟩:=hO _ _ m.1;exact⟨o,z⟩
  have G:∀b∈[e,f],(upd H s.heap.objs.size (.tup [.int i,x])) b=none:=λb d=>by rw[c7 (aay (lt b d))];exact(L b d).1
  refine⟨_,rfl,wpAny_letOwnedTupleGo_enum ho λg2 aa C=>?_⟩;obtain⟨f0,f1,f2,f3,f4,f5⟩:=L e (by simp);exact⟨.ref s.heap.objs.size,_,I1.turned (t':=tk+1) (λb o d z=>(C.2 b d).trans z) (G e (by simp)) f1 f3 f4 f5,rfl,⟨s.heap.objs.size,x,I.hok.fresh (aaf _),rfl,λys hy=>by rw[un ys hy];exact W,rfl⟩,⟨⟨_,by simpa using aa⟩,kp _ _ _ m.1 λo z=>(C.2 f (aaI p)).trans z⟩,G⟩
 done:=by
  intro X Q R U hc i j s O H E I L⟨⟨c,n⟩,r⟩⟨F,hq,W⟩;obtain⟨un,J,l,T,rv,hT,D⟩:=hS Q R U (I.ok.hd hc) I r n hq;obtain rfl:l.size=i:=by rw[<-W,rv.length];rfl
  obtain⟨f0,f1,f2,f3,f4,f5⟩:=L f (by simp);exact wpAny_pyNext_enum_endD D n ⟨r,hT⟩ λN ex=>⟨rfl,I.turned (t':=s.toks) (λb o d e=>ex b o d e) f0 f1 f3 f4 f5⟩
 self:=λ_ _ _ _ _⟨⟨_,n⟩,_⟩h=>acp n h
def Hc{h:ZN}{o f:Obj}(e:h.get? a=some o)(i:o.cls=.type c)(g:h.get? b=some f)(hd:f.cls=.type d)(n:c≠d:=by decide):a≠b:=by rintro rfl;rw[e]at g;cases g;exact n (Value.type.inj (i.symm.trans hd))
def Aj{P:ZE}{w:ZH}{K:Zs}{f:YU}{k1}{j:Pos}(a e b:Zl)(l:e≠b):Turn P w K (.Tuple f k1 j) (Za K a) [e,b] e (λi h=>(∃g,IsEnum h e b i g)/\h.IsTupleIter b a i):=
 zR a e b l (λi h⟨o,e,_,d⟩=>⟨o,e,λv z=>by rw[d]at z;cases z⟩) (λi h L r k=>r.at k) λx y B hd I C D m=>by subst x y B;obtain⟨c,F,p,M⟩:=I.tuple m;obtain⟨o,n,q,_⟩:=id p;obtain⟨N,G,J,_⟩:=id C;exact⟨λys E=>I.tuple_inj E m,Hc n q D rfl,c.toArray,λh=>h.IsTuple a c.toArray,F,p,Rr (A:=Around.in1 _) hd b a (Hc n q G J) _⟩
def Le{a:ZT}{R:It->Hp->Prop}{J:It}{c:Nat->Heap->Prop}(I:Inv X eH σ H s)(k:∀b o,s.heap.get? b=some o->h'.get? b=some o)(T:Turn X.prog X.w X.K a J [s.heap.objs.size+1,s.heap.objs.size] (s.heap.objs.size+1) c)(e:c 0 h')(q:R J H):
 PIE X eH σ a R (.ref (s.heap.objs.size+1)) {s with heap:=h'}:=
 ⟨_,_,_,_,H,rfl,I.kept (t':=s.toks) k,T,e,λb d=>by
  have:s.heap.objs.size<=b:=by rcases Kw d with rfl|rfl<;>omega
  exact I.fpOk this (I.hok.fresh this),q⟩
def SX(K:Zs)(e:TA):TI:=λc H R=>e c H λvs b=>∃a,vs=[.ref a]/\(∃d,gf K b a d)/\R (Za K a) b
def J5{c:YU}{k1}{pt:Pos}{a:ZT}{n:TA}{p d:Pos}(x:Gl X "enumerate")(y:X.mg "enumerate"=none)(z:bootBuiltins "enumerate"=some (.type "enumerate"))(A:PA X [a] n)(B:starEach [a] X.env=[(false,eval a X.env)]:=by rfl):PI X (.Tuple c k1 pt) (.Call (.Name "enumerate" p) [a] [] d) (SX X.K n):=by intro b s w H R I h;refine Call_ (oR I x y z (abU (gH (A d b s w H _ I h) λC i⟨vs,D,j,r1,q1⟩=>?_) B rfl));obtain⟨l,rfl,⟨E,r⟩,q⟩:=q1;obtain⟨u,rfl,e⟩:=vals1 r1;cases(show u=Value.ref l from e);obtain⟨f,F,v,G⟩:=j.tuple r;exact zH (show i.heap.IsTuple l f.toArray from v) λg m o hk=>acp m (Le j hk (Aj l _ i.heap.objs.size (Nat.succ_ne_self _)) ⟨⟨_,m⟩,o⟩ q)
def Gq(c:Nat->St->Hp->Prop)(o:c 0 b H)(f:∀i b H,i<=xs.length->c i b H->S H xs)
 (q:∀i x b H p,xs[i]?=some x->c i b H->H p=none->g (.ref p) b (upd H p (.tup [.int i,x])) λd l=>j {D with nx:=c (i+1),ct:=c (i+1),bk:=D.nx} d l)
 (hd:∀b H,c xs.length b H->D.nx b H):FW (Rh S) g j D b H:=
 pK c o (λb H p=>⟨⟨xs,f _ b H (aaf _) p,rfl⟩,hd b H p⟩) λi b H h p=>⟨⟨xs,xs[i],f i b H (aaX h) p,by simp[h]⟩,λv _⟨a,x,m,e,n,y⟩=>by subst e y;exact q i x b H a (n xs (f i b H (aaX h) p)) p m⟩
def o_:bootBuiltins "enumerate"=some (.type "enumerate"):=by ext
end
open PySem.W
open Builtin.ObjectAttr
end L2
namespace L2
open PySem PySem.Spec PyProof.Rows
open PySem.SeqAt PySem.W Builtin.ObjectAttr
end L2
namespace L2
open PySem PySem.Spec PyProof.Rows
open PySem.W
end L2
namespace L2
open PySem PySem.Spec PyProof.Rows
open PySem.W
noncomputable def tabIn(K:Zs)(c:Zl):Option Addr:=match K.lookup c with
 | some o=>(match o.data with
   | .fields vs=>(match(vs[11]?:Option Value),vs.getD 18 .none,vs.getD 7 .none,vs.getD 9 .none,vs.getD 10 .none with
     |some (Value.ref P),.str _ _,.int _ _,.bool _,.int _ _=>if(o.cls==.type "code"&&c !=P)=true then some P else none
     |_,_,_,_,_=>none)
   |_=>none)
 |none=>none
set_option tactic.hygienic true in
def S6{K:Zs}(X:K.In h)(e:tabIn K c=some P):CodeHd h c P:=by
 unfold tabIn at e;split at e
 ·rename_i o m;split at e
  ·rename_i vs hd;split at e
   ·rename_i v b d n p q f g a i r s j;split at e
    ·rename_i l;cases e;simp only[aaK,abb,bne_iff_ne]at l;refine⟨o,vs,b,d,n,p,q,f,g,X _ _ m,l.1,hd,a,?_,i,r,s,j,l.2⟩;rw[Array.getD_eq_getD_getElem?,a];rfl
    ·cases e
   ·cases e
  ·cases e
 ·cases e
end L2
namespace L2
open PySem PySem.Spec PyProof.Rows PySem.SeqAt
noncomputable def Pb(C:Zl)(i:Sp)(j:List V->List V->List V)(E:XK)(t tk:TA):TE:=λc H Q=>t c H λvs d=>tk c d λg b=>∀x a,b x=none->b a=none->a≠x->
 i (j (.ref x::vs) g) (upd (upd b a (.own x)) x (.ins C a [])) (λv h=>v=.non/\Q (.ref x) h) E
theorem Di(M:Mk X.K C f)(F:dm X.prog X.w X.K X.mg X.base T k f S p R)(N:eZ (k+1) X.A)(q:k_ X.K S p m g o)
 (O:jt T X E)(I:Inv X b j H s)(r:Vals vs us)(P:Vals l c)
 (h:∀x d,H x=none->H d=none->d≠x->R (o (.ref x::vs) l) (upd (upd H d (.own x)) x (.ins C d [])) (λv w=>v=.non/\Q (.ref x) w) E):
 wpAny (model X.prog X.w) X.A (call (.ref C) us (m.zip c)) (EP X b j Q) X.xe s:=by
 have n:=h (s.heap.objs.size+1) s.heap.objs.size (I.hok.fresh (abo _)) (I.hok.fresh (aaf _)) (aay (ace _));have i:=Inv.made (C:=C) I;have r2:Vals (o (V.ref (s.heap.objs.size+1)::vs) l) (g (Value.ref (s.heap.objs.size+1)::us) c):=q.rel (.cons rfl r) P;have z:(g (Value.ref (s.heap.objs.size+1)::us) c).length=p.length:=by have e:=r2.length;rw[F.len _ _ _ _ n]at e;exact e.symm
 refine abW (yg (f:=f) I.kIn M.makes M.init (abb.mp M.fn) (codeAny_mono (F.run _ X.stack _ _ ⟨Value.ref (s.heap.objs.size+1)::us,m.zip c⟩ (g (Value.ref (s.heap.objs.size+1)::us) c) _ _ E (N.make C us (m.zip c)) (i.env0.make C us (m.zip c)) (q.to _ (Value.ref (s.heap.objs.size+1)::us) c i.kIn z) r2 n) λr y a=>?_));cases r with
 |error e=>exact O b j _ _ e y i a
 | ok L=>
   cases L with
   | ret u=>obtain⟨v,A,B,D,G,J⟩:=i.after a;subst G;exact⟨D,⟨V.ref (s.heap.objs.size+1),A,B,rfl,J⟩⟩
   |next=>exact False.elim a
   |brk=>exact False.elim a
   |cont=>exact False.elim a
def qj(M:Mk X.K C f)(F:dm X.prog X.w X.K X.mg X.base P k f N O L)(r:eZ (k+1) X.A)(v:Gl X x)(w:X.mg x=some (.ref C))(y:k_ X.K N O o g J)(z:jt P X E)
 (c:PK X m tk)(b:(backToKw e (keywordEach m X.env)).all (·.1.isSome)=true:=by rfl)(d:(backToKw e (keywordEach m X.env)).filterMap (·.1)=o:=by rfl)
 (i:(x==("__debug__":Str))=false:=by decide)(j:((backTo e (starEach [] X.env)).any (·.1)||(backToKw e (keywordEach m X.env)).any (·.1.isNone))=false:=by rfl):
 PE X (.Call (.Name x p) [] m e) (Pb C L J E y_ tk):=by
 intro a s q H Q I h;refine abn (pq I v w ?_ i);refine PySem.W.callWith_KW0 (h₀:=X.base) I.ok.mod.kin M.kp b ?_ j;refine gH (c e a s q H _ I h) λA B⟨D,G,l,n,q2⟩=>⟨l.kIn,?_⟩;rw[d];exact Di (us:=[]) (vs:=[]) M F r y z l .nil n q2
end L2
namespace L2
open PySem PySem.Spec PyProof.Rows PySem.W
theorem Ek{P:ZE}{w:ZH}{K:Zs}{Q mb:Y1}{CX:Bp}{k:Nat}{fa a:Zl}{j:YI}{fd:ZB}{x:Str}{sp:Sp}{f:Zp}{vs:Y3}{G:List Int}
 (KX:K.In f.heap)(R:f.heap.Ns mainGlobals Q)(Z:f.heap.Ns builtinsNs mb)(hbb:∀x:Str,x≠"__name__"->mb x=bootBuiltins x)(S:f.heap.NoLimit)(hg:f.gens=#[])
 (I:f.heap.get? a=some {cls:=.type "list",data:=.seq vs.toArray})(hi:IntsAre vs G)(hl:G.length<=sizeLine)(hr:eZ k callerA)
 (U:∀T∈j,f.heap.get? T=some (tabObj #[])/\K.lookup T=none/\∃c,CodeHd f.heap c T)
 (F:∀l:Heap,K.In l->l.Ns mainGlobals Q->(∀b o,f.heap.get? b=some o->b∉j->b≠a->l.get? b=some o)->dm P w K Q l CX k fa fd [x] sp)(D:∀(s:Zp)(u:ZI),BindsTo s fd ⟨[u],[]⟩ [(x,u)])
 (hsp:∀H:Hp,(∀T∈j,H T=some (.tbl #[]))->fj K H a (G.map V.int)->sp [.ref a] H (λv _=>v=.bl true) λ_ _ _=>False)
 (hCX:∀H e n,CX [] H f (λ_ _ _=>False) e n->False):
 codeAny (model P w) callerA (.call (.ref fa) ⟨[.ref a],[]⟩) (λr n=>r=.ok (.ret (.bool true))/\OldK f.heap n.heap/\n.os=f.os/\AllBare n.gens) f:=by
 have rv:=uv hi;have J:=hi.length;have aa:a∉j:=λq=>by have:=(U a q).1;rw[I]at this;cases this
 have B:∀E:Hp,(∀b,E b=none\/(b=a/\K.lookup a=none/\E b=some (.frz {cls:=.type "list",data:=.seq vs.toArray} (.lst (G.map V.int)))))->fj K (λb=>if b∈j then some (.tbl #[])else E b) a (G.map V.int)->
  codeAny (model P w) callerA (.call (.ref fa) ⟨[.ref a],[]⟩) (λr n=>r=.ok (.ret (.bool true))/\OldK f.heap n.heap/\n.os=f.os/\AllBare n.gens) f:=by
  intro E Y hS;generalize hH:(λb=>if b∈j then some (HO.tbl #[])else E b:Hp)=H at hS;have HT:∀T∈j,H T=some (.tbl #[]):=λT m=>by rw[<-hH];exact aac m
  have p:∀b,b∉j->H b=E b:=λb e=>by rw[<-hH];exact aab e
  have Hn:∀b,b∉j->b≠a->H b=none:=λb i A=>by
   rw[p b i];rcases Y b with z|⟨z,_⟩
   ·exact z
   ·exact absurd z A
  have ab:oG P w H f.heap:=λb u e=>by
   by_cases q:b∈j
   ·rw[HT b q]at e;cases e;exact(U b q).1
   ·rw[p b q]at e;rcases Y b with z|⟨rfl,_,z⟩
    ·rw[z]at e;cases e
    ·rw[z]at e;cases e;exact⟨I,by rw[aad];exact hl,vs,_,rv,I⟩
  have ac:∀{b:Zl}{o:Obj}{W:Array DictEntry}{X:Nat},f.heap.get? b=some o->o.data=.dict W X->H b=none:=λ{b o W X}e d=>by
   refine Hn b (λq=>?_) (λq=>?_)
   ·rw[(U b q).1]at e;cases e;cases d
   ·subst q;rw[I]at e;cases e;cases d
  have y:∀{b:Zl}{m:Y1},f.heap.Ns b m->(yQ f.heap H).Ns b m:=λ{b m}⟨o,W,X,e,d,r⟩=>⟨o,W,X,tQ e (ac e d),d,r⟩;have L:K.In (yQ f.heap H):=λb o e=>by
   refine tQ (KX b o e) ?_;have q:b∉j:=λm=>by rw[(U b m).2.1]at e;cases e
   rw[p b q];rcases Y b with z|⟨rfl,z,_⟩
   ·exact z
   ·rw[z]at e;cases e
  have hM:Mod K Q (yQ f.heap H):=⟨L,y R,⟨mb,y Z,hbb⟩,let⟨mc,i,A⟩:=S;⟨mc,y i,A⟩⟩;have e0:Ba P w K Q (yQ f.heap H) callerA [] f H:=⟨rfl,hM,λb o e=>JH e,Nat.le_of_eq (CJ _ _),trivial,λb Z=>absurd (show b∈([]:YI)from Z) (by simp),ab,.of_eq hg⟩;refine codeAny_mono ((F _ L (y R) λb o e i A=>tQ e (Hn b i A)).run callerA [] f H ⟨[.ref a],[]⟩ [.ref a] [.ref a] _ _ hr e0 (D f (.ref a)) (.cons rfl .nil) (hsp H HT hS)) λr n h=>?_;cases r with
  |error e=>exact(hCX H e n h).elim
  | ok fl=>
    cases fl with
    |next=>exact False.elim h
    |brk=>exact False.elim h
    |cont=>exact False.elim h
    | ret u=>
      obtain⟨v,H',os,O,un,C,r',q⟩:=h;cases(show v=.bl true from q);cases(show u=Value.bool true from r');have M:∀b o,f.heap.get? b=some o->b∉j->n.heap.get? b=some o:=λb o e i=>by
       rcases Y b with z|⟨rfl,_,z⟩
       ·exact un.keep b o e (by rw[p b i];exact z) (by intro z;exact absurd (show b∈([]:YI)from z) (by simp)) (by simp)
       ·have z2:=un.frzs b _ _ ((p b i).trans z);obtain⟨e2,_⟩:=C b _ z2;rw[I]at e;cases e;exact e2
      have N:∀T∈j,∃g,n.heap.get? T=some {cls:=.none,data:=.fields (#[]++g)}:=λT m=>by obtain⟨g,hm⟩:=un.tbls T #[] (HT T m);exact⟨g,C T _ hm⟩
      refine⟨rfl,⟨λb o e=>?_,λb o e=>?_⟩,os,O⟩
      ·by_cases i:b∈j
       ·obtain⟨g,tb⟩:=N b i;obtain⟨A,_,c,hc⟩:=U b i;rw[A]at e;cases e;exact .inr (.inl ⟨(hc.tab A).isCodeTable,rfl,#[],g,rfl,tb⟩)
       ·exact .inl (M b o e i)
      ·by_cases i:b∈j
       ·obtain⟨g,tb⟩:=N b i;exact⟨_,tb⟩
       ·exact⟨o,M b o e i⟩
 cases hk:K.lookup a with
 | some o=>have e:=KX a o hk;rw[I]at e;cases e;exact B (λ_=>none) (λ_=>.inl rfl) (.inr ⟨_,vs.toArray,_,hk,rfl,rfl,rfl,by rw[aau,J];exact hl,by simpa using rv⟩)
 | none=>
   refine B (λb=>if b=a then some (.frz {cls:=.type "list",data:=.seq vs.toArray} (.lst (G.map V.int)))else none) (λb=>?_) (.inl (.inr ⟨_,(aab aa).trans (aac rfl)⟩));by_cases h:b=a
   ·exact .inr ⟨h,hk,aac h⟩
   ·exact .inl (aab h)
def Hm{l:OpenLaw}{n k:Nat}{q:ZE}{y:Y2}{XP:(Str->Option Value)->Heap->Prop}{S:World->Heap->Prop}{d:DefRec}{K:Params->Frag}{CX:World->Bp}{x:Str}{A:YI}
 (hn:l.most=some n)(U:n<=sizeLine)(W:d.params.defaults=[])(hr:eZ k callerA)
 (hY:∀(w:ZH)(h:ZN),S w h->(K w.params).In h)(X:∀(w:ZH)(h:ZN),S w h->∀T∈A,h.get? T=some (tabObj #[]))
 (F:∀(w:ZH)(j:Y1)(C:Zl)(h:ZN),(K w.params).In h->h.Ns mainGlobals j->j d.name=some (.ref C)->∃(N:ZB)(O:Sp),(∀(s:Zp)(u:ZI),BindsTo s N ⟨[u],[]⟩ [(x,u)])/\(∀T∈A,(K w.params).lookup T=none/\∃c,tabIn (K w.params) c=some T)/\(∀(H:Hp)(a:Zl)(D:List Int),D.length<=n->(∀T∈A,H T=some (.tbl #[]))->fj (K w.params) H a (D.map V.int)->O [.ref a] H (λv _=>v=.bl true) λ_ _ _=>False)/\∀b:Heap,(K w.params).In b->b.Ns mainGlobals j->(∀T∈A,b.BuiltinsAt j T/\mainGlobals≠T)->dm l.prog w (K w.params) j b (CX w) k C N [x] O)
 (Z:∀(w:ZH)(H:Hp)(s:Zp)(e:ZI)(M:Zp),CX w [] H s (λ_ _ _=>False) e M->False):
 WalkO q y XP S l.row.toRowW d [] (λf vs=>PySem.call f vs):=by
 refine Att.xV hn W λw aa B j mb C o pm cd ab a vs D G Y ho hd ac J g p i hg=>?_;have P:=hY w _ Y;have Q:=X w _ Y;obtain⟨N,O,hb,ht,R,hF⟩:=F w j C _ P G.T.g J;obtain⟨E,ob,b1,b2,r,b4,b5,I⟩:=G.T.bmain;have gT:∀T∈A,mainGlobals≠T:=λT m q=>by obtain⟨o,es,ep,e,hd,_⟩:=G.T.g;rw[q,Q T m]at e;cases e;cases hd
 have bT:E∉A:=λm=>by rw[Q _ m]at r;cases r;cases b4
 have ba:E≠a:=λq=>by rw[q,g]at r;cases r;cases I
 have bG:E≠mainGlobals:=λq=>by obtain⟨o,es,ep,e,hd,_⟩:=G.T.g;rw[q,e]at r;cases r;rw[hd]at I;cases I
 exact Ek P G.T.g G.T.b G.T.builtins G.T.nolimit hg g p (aag i U) hr (λT m=>⟨Q T m,(ht T m).1,let⟨c,z⟩:=(ht T m).2;⟨c,S6 P z⟩⟩) (λb kb nb L=>hF b kb nb λT m=>⟨⟨E,ob,b1,b2,bG,λq=>bT (q▸m),L _ _ r bT ba,b4,b5,I⟩,gT T m⟩) hb (λH hH hS=>R H a D i hH hS) λH e M=>Z w H B e M
end L2
namespace L2
open PySem PySem.Spec PyProof.Rows
def CZ(I:Inv X c i H s)(e:H a=some (.dK b))(x:y=kV k)(l:b.length<sizeLine)(B:RelV y u)(C:RelV v r)
 (h:∀g,Inv X c i (upd H a (.dK (putK b k v))) g->Q () g):wpAny (model X.prog X.w) A (dictSet a u r) Q E s:=by
 subst x;obtain⟨z,hd,vs,f,dd⟩:=xq I.hok e;have n:vs.length<=sizeLine:=by rw[<-f.length];exact z
 have o:(putK b k v).length<=sizeLine:=by have:=lO b k v;omega
 refine wpAny_dictSet_pairs (hsz:=n) (rH B) dd λj d m=>h _ ?_;have p:∃q,j.get? a=some q:=let⟨q,_,_,w,_⟩:=d;⟨q,w⟩
 exact qT I (by rw[e];exact aaP) m p (vO o hd (f.put k C) d)
noncomputable def Cq(J:It)(g:TG)(p:TT)(tk q:TE)(e:Zl)(F:Hp->Prop)(W:Nat->Nat->St->Hp->Prop):Prop:=
 ∀i m j H,W i m j H->(J.stop i H/\F H)\/(J.go i H/\∀x l,J.yld i H x l->g x j l λa n=>p a n λb f=>if b=true then tk a f λy o=>q a o λz h=>∃c k,h e=some (.dK c)/\y=kV k/\c.length<sizeLine/\∃d,d<m/\W (i+1) d a (upd h e (.dK (putK c k z)))else∃d,d<m/\W (i+1) d a f)
noncomputable def P0(e:TI)(g:TG)(f:TT)(tk h:TE)(k:Nat)(i:List Nat):TE:=λb H Q=>e b H λJ c=>∀a,c a=none->∃W:Nat->Nat->St->Hp->Prop,(∃m,W 0 m (jU k i b) (upd c a (.dK [])))/\
 Cq J g f tk h a (λd=>Q (.ref a) d) W
def Am(W:Nat->Nat->St->Hp->Prop)(p:Cq J g tt tk tv j F W)(T:Turn X.prog X.w X.K tg J fp N O)
 (hg:PG (eV X scope N' f C c d fp) tg g)(hc:pH (eV X scope N' f C c d fp) ifs tt)(hk:PE (eV X scope N' f C c d fp) ke tk)(hv:PE (eV X scope N' f C c d fp) ve tv)(n:X.calm=true)
 (E:∀b∈fp,∀o:Hp,o b=none->km (eV X scope N' f C c d fp) [] o b)(hR:∀L A o,Inv (eV X scope N' f C c d fp) [] A o L->F o->R (.ok .next) L)
 (I:Inv (eV X scope N' f C c d fp) [] e H s)(st:O 0 s.heap)(fr:∀b∈fp,H b=none)(w0:W 0 m e H):
    codeAny (model X.prog X.w) X.A (.compLoop (.DictComp ke ve [⟨tg,iter,ifs,0⟩] scope pos) 0 (.ref N) (.ref j) (compEnvC scope f C X.env)) R s:=
  GZ (Y:=eV X scope N' f C c d fp) (α:=Unit) (a:=()) (B:=λk=>(do
   let D<-eval ke (compEnvC scope f C X.env)
   let M<-holding [D] (eval ve (compEnvC scope f C X.env))
   standAt {ke.pos with endLine:=ve.pos.endLine,endCol:=ve.pos.endCol}
   holding [D,M] (dictSet j D M))>>=λ_=>k) (λ_=>[]) ⟨λ_=>rfl,λ_ _=>rfl⟩ T hg hc n (λ_ _ z=>z) (λ_=>E) (λi m _=>W i m)
   (λi m _ e H=>tk e H λy P=>tv e P λz G=>∃l k,G j=some (.dK l)/\y=kV k/\l.length<sizeLine/\∃r,r<m/\W (i+1) r e (upd G j (.dK (putK l k z)))) (λ_=>True) (λ_=>True)
   (λi m _ e H _ w=>(p i m e H w).imp (λz=>⟨z.1,λs I=>hR s e H I z.2⟩) λz=>⟨z.1,trivial,z.2⟩)
   (λi m _ e H h s _ _ q _ I _ _ _ z=>aaa (aaa (aaG (hk _ s e H _ I q) (λy Q⟨yv,S,U,Z,q8⟩=>aaa (abg (aaG (hv _ Q e S _ U q8) (λy2 s9⟨zv,H9,I9,r9,l,k,e9,ek,hl,r,hm,w9⟩=>aaa (abl (abg (CZ (X:=eV X scope N' f C c d fp) I9 e9 ek hl Z r9 λv x=>z v ⟨r,hm,(),e,_,x,trivial,w9⟩)))) λ_ _ z=>z.elim))) λ_ _ z=>z.elim))) I st fr trivial w0
def Dy{X:Cx}{scope:ZU}{own:Y2}{H:Hp}{s:Zp}{U:Nat->Heap->Prop}{n:YR}{F:Addr->Hp->Prop}{RR:Value->Addr->Result->Shared->Prop}
 (S:dX X scope own js N')(B:X.calm=true)(hg:∀n C d f A,PG (eV X scope N' n C d f A) tg g)(hc:∀n C d f A,pH (eV X scope N' n C d f A) ifs tt)(hk:∀n C d f A,PE (eV X scope N' n C d f A) ke tk)(hv:∀n C d f A,PE (eV X scope N' n C d f A) ve tv)
 (P:∀x c,n.lookup x=some c->X.env.cells.lookup x=some c)(Q:∀x,(x,NameKind.free)∈scope.names->∃c,n.lookup x=some c)
 (I:Inv X i O H s)(T:Turn X.prog X.w X.K tg J fp it U)(Y:U 0 s.heap)(Z:∀b∈fp,km X i H b)
 (hW:∀h,H h=none->∃W:Nat->Nat->St->Hp->Prop,(∃m,W 0 m (jU own.length js O) (upd H h (.dK [])))/\Cq J g tt tk tv h (F h) W)
 (R:∀h C y L m,Inv X i O y L->L.heap.Ns C m->y C=none->C≠X.env.locals->X.s₀.heap.objs.size<=C->(∀x c,X.env.cells.lookup x=some c->c≠C)->(∀p∈X.pn++i,p.1≠C)->F h y->RR (.ref h) C (.ok .next) L):
 wpAny (model X.prog X.w) X.A newDict (λh D=>wpAny (model X.prog X.w) X.A (newFunctionEnv scope X.env.globals n [] X.env.qual none .none (some X.env)) (λv r=>codeAny (model X.prog X.w) X.A (.compStart (.DictComp ke ve [⟨tg,iter,ifs,0⟩] scope pos) 0 (.ref it) h {v with scope:=relabel scope X.env}) (RR h v.locals) r) E D) E s:=by
 refine aa2 ?_;have N:=I.laid (a:=s.heap.objs.size) (o:=.dK []) (t':=s.toks) (h':=s.heap.push {cls:=.type "dict",data:=.dict #[]}) (λ_ _ q=>aan _ q) (aaf _) (rY s.heap I.big);obtain⟨W,⟨m0,w0⟩,M⟩:=hW _ (I.hok.fresh (aaf s.heap.objs.size));have l:∀b∈fp,km X i (upd H s.heap.objs.size (.dK [])) b:=λb j=>by obtain⟨o,e,_⟩:=T.obj _ _ Y b j;exact⟨by rw[c7 (aay (aaq e))];exact(Z b j).1,(Z b j).2⟩
 refine uR (s:={s with heap:=s.heap.push {cls:=.type "dict",data:=.dict #[]}}) (h1:=s.heap.push {cls:=.type "dict",data:=.dict #[]}) S N (λ_ _ e=>e) (aaf _) P Q T (T.keep _ _ _ Y λb j o e=>aan _ e) l λe r e1 e2 up I1 G fs=>?_;rw[e1,e2];have w:codeAny (model X.prog X.w) X.A (.compLoop (.DictComp ke ve [⟨tg,iter,ifs,0⟩] scope pos) 0 (.ref it) (.ref s.heap.objs.size) (compEnvC scope n (s.heap.push {cls:=.type "dict",data:=.dict #[]}).objs.size X.env)) (RR (.ref s.heap.objs.size) (s.heap.push {cls:=.type "dict",data:=.dict #[]}).objs.size) r:=by refine Am W M T (hg _ _ _ _ _) (hc _ _ _ _ _) (hk _ _ _ _ _) (hv _ _ _ _ _) B (λb j=>(fs b j).2) (λL aa y z q=>?_) I1 G (λb j=>(l b j).1) w0;obtain⟨m,hm,_⟩:=z.loc;obtain⟨_,c1,_,_,c4,c5⟩:=N.fpOk (H':=y) (aaf _) z.free;exact R _ _ y L m (N.call' z.os z.base z.hok z.bare λb j=>⟨(l b j).2.2.2.1,(l b j).2.1,(l b j).2.2.2.2.1,(l b j).2.2.2.2.2⟩) hm z.free c1 N.sz c4 c5 q
 exact uD rfl rfl w (T.self _ 0 _ _ _ G w)
open PySem.SeqAt
def PL{b:Type}{us:List b}(h:us.length=1):∃a,us=[a]:=List.length_eq_one_iff.mp h
theorem PP{c:Type}{us:List c}(h:us.length=2):∃a b,us=[a,b]:=by
 cases us with
 |nil=>cases h
 | cons a r=>obtain⟨b,rfl⟩:=PL (us:=r) (by simpa using h);exact⟨a,b,rfl⟩
theorem Ft{d:Type}{us:List d}(h:us.length=3):∃a b c,us=[a,b,c]:=by
 cases us with
 |nil=>cases h
 | cons a r=>obtain⟨b,c,rfl⟩:=PP (us:=r) (by simpa using h);exact⟨a,b,c,rfl⟩
theorem VR{f:Type}{e:List f}(h:e.length=4):∃a b c d,e=[a,b,c,d]:=by
 cases e with
 |nil=>cases h
 | cons a r=>obtain⟨b,c,d,rfl⟩:=Ft (us:=r) (by simpa using h);exact⟨a,b,c,d,rfl⟩
end L2
namespace L2
open PySem PySem.Spec PyProof.Rows
theorem uQ:∀{b:List Int} {c:Y3},Vals (b.map V.int) c->∃a:List (Int×Tok),c=a.map (λp=>Value.int p.1 p.2)/\a.map (·.1)=b
 |[],_,r=>by rw[ab0]at r;cases r;exact⟨[],rfl,rfl⟩
 | n::b,_,r=>by
   rw[aat]at r;cases r with
   | cons h t=>obtain⟨tk,rfl⟩:=(show∃t,_=Value.int n t from h);obtain⟨a,d,e⟩:=uQ t;exact⟨(n,tk)::a,by rw[d];rfl,by rw[aat,e]⟩
def numAt_eq{b:List (Int×Tok)}{a:List Int}(e:b.map (·.1)=a)(h:i<a.length):numAt b.toArray i=a[i]:=by subst e;unfold numAt;simp at h|-;rw[aaz h];rfl
def Ia{a:List (Int×Tok)}:(a.map (λp=>Value.int p.1 p.2)).toArray=intItems a.toArray:=by unfold intItems;simp
def oO{S:Hp->List V->Prop}{xs:List V}{g:TG}{r:TT}{s:TE}{F:List V->Hp->Prop}{m:St}{v:Hp}(f:Nat->List V->St->Hp->Prop)(A:xs.length<=sizeLine)(B:f 0 [] m v)(n:∀i ys a H,i<=xs.length->f i ys a H->S H xs)
 (C:∀i x ys a H,xs[i]?=some x->f i ys a H->∀N:List V->St->Hp->Prop,(∀d j q,f (i+1) d j q->d.length<=ys.length+1->N d j q)->g x a H λc w=>r c w λb o=>if b=true then s c o λy z=>N (ys++[y]) c z else N ys c o)
 (hd:∀ys a H,ys.length<=xs.length->f xs.length ys a H->F ys H):CW (Ua S) g r s F m v:=
 vz f A B (λys a H l p=>⟨⟨xs,n _ ys a H (aaf _) p,aaf _⟩,hd ys a H l p⟩) λi ys a H h p=>⟨⟨xs,xs[i],n i ys a H (aaX h) p,by simp[h]⟩,λx _⟨e,y⟩=>by subst e;exact C i x ys a _ (y xs (n i ys a _ (aaX h) p)) p⟩
open PySem.SeqAt
def nZ(t:TE)(a:St)(H:Hp)(v:V):Prop:=∀Q:VK,Q v H->t a H Q
def wy(t:TT)(a:St)(H:Hp)(b:Bool):Prop:=∀Q:Bool->Hp->Prop,Q b H->t a H Q
def Bo(r:R2)(x y:V)(H:Hp)(v:V):Prop:=∀Q:VK,Q v H->r x y H Q
def nZ.var(h:a[i]?=some (some v)):nZ (oY i) a H v:=λQ q=>⟨v,h,q⟩
def nZ.con:nZ (tC v) a H v:=λQ q=>q
def nZ.neg(a:nZ c b H (.int i)):nZ (Zk (rU λi=>.int (-i)) c) b H (.int (-i)):=λQ q=>a _ ⟨i,rfl,q⟩
def Bo.i0:Bo (Jr g) (.int i) (.int j) H (g i j):=λQ q=>⟨i,j,rfl,rfl,q⟩
def wy.test(a:nZ t b H (.bl k)):wy (uN t) b H k:=λQ q=>a _ ⟨k,rfl,q⟩
theorem nZ.chain(a:nZ l e H x)(b:nZ f e H y)(c:nZ g e H z)(h:Bo r x y H (.bl k))(d:Bo i y z H (.bl j)):nZ (zA r i l f g) e H (.bl (k&&j)):=λQ q=>a _ (b _ (h _ ⟨k,rfl,by
 cases k with
 |false=>exact gW rfl q
 |true=>exact j5 rfl (c _ (d _ q))⟩))
def wy.not(a:wy t b H k):wy (UW t) b H (!k):=λQ q=>a _ q
def wy.iff(h:wy t c H k)(q:if k=true then a D c H else b D c H):KY t a b D c H:=h _ q
noncomputable def Yu(K:Zs):R2:=λx y H Q=>∃d e,Rep K H x (.list d)/\Rep K H y (.list e)/\gA d<=60/\Q (.bl (!jw d e)) H
theorem R7(G:X.A.units+64<cLine):m_ X (compareOp .NotEq) (Yu X.K):=by
 intro z s F H x y v u Q I B C h;obtain⟨d,e,n,o,hd,q⟩:=h;cases n with
 | lst D g=>
   cases o with
   | lst E i=>
     cases(show v=Value.ref _ from B);cases(show u=Value.ref _ from C);obtain⟨a,b,r,_⟩:=I.list D;obtain⟨c,f,w,_⟩:=I.list E;have p:=Ci (X:=X) (H:=H) (A:=X.A) g i b f;by_cases m:a.toArray.size=c.toArray.size
     ·have l:=RcNeAt.lists (A:=X.A) r.isList w.isList m (by omega)
       (e:=λj=>lB (d.getD j .none) (e.getD j .none)) (λj n o=>by simpa using oM I g i b f (A:=X.A.in1) (by show X.A.units+1+_<_;omega) j (by simpa using n) (by simpa using o));rw[<-m,Nat.min_self,ab2,Bool.and_true]at p;rw[p]at l;exact l _ _ _ _ ⟨.bl _,H,I,rfl,q⟩
     ·have l:=RcNeAt.lists_lengths (A:=X.A) r.isList w.isList (by simpa using m) (by omega);have:jw d e=false:=by rw[<-p,abr.mpr m,acK]
      rw[this]at q;exact l _ _ _ _ ⟨.bl _,H,I,rfl,q⟩
theorem nM{f:Nat->Int}{b:List Int}(h:∀i(c:i<b.length),f i=b[i]):∀k,k<=b.length->preSum f k=(b.take k).sum
 |0,_=>rfl
 | k+1,hk=>by have a:k<b.length:=hk;show preSum f k+f k=_;rw[nM h k (aaX a),h k a,aaT,aaz a,List.sum_append];simp
theorem sum_bound:∀{ns:List Int},(∀x∈ns,-B<=x/\x<=B)->0<=B->-(B*ns.length)<=ns.sum/\ns.sum<=B*ns.length
 |[],_,_=>by simp
 | n::ns,h,hB=>by have b:=h n (aal ..);have c:=sum_bound (ns:=ns) (λx a=>h x (aah _ a)) hB;rw[abx,aav,Int.natCast_succ,Int.mul_add,Int.mul_one];omega
def p_{X:Cx}(E:X.calm=true):jX X (.builtin "sum") (λl H Q=>∃(p:Zl)(a:List Int),l=[.ref p]/\fj X.K H p (a.map V.int)/\a.length<=1000/\(∀x∈a,-10000000000000<=x/\x<=10000000000000)/\Q (.int a.sum) H):=by
 intro o s P H l R Q I r h;obtain⟨p,a,rfl,y,N,n,q⟩:=h;obtain⟨u,rfl,z⟩:=vals1 r;cases(show u=Value.ref p from z);obtain⟨A,C,D,O⟩:=I.list y;obtain⟨g,rfl,e⟩:=uQ C;have b:g.length=a.length:=by rw[<-e,aad]
 have f:=D.isList;rw[Ia]at f;have c:∀i(m:i<a.length),numAt g.toArray i=a[i]:=λi m=>numAt_eq e m;refine sum_intList (I.ok.hd E) f (λj v=>?_) λF tk G k=>?_
 ·have d:j<a.length:=by simpa[b]using v
  rw[c j d,nM c (j+1) d];have J:=n _ (List.getElem_mem d);have L:=sum_bound (B:=10000000000000) (ns:=a.take (j+1)) (λx w=>n x (List.mem_of_mem_take w)) (by decide);have M:(a.take (j+1)).length<=1000:=by rw[aaS];omega
  refine⟨⟨?_,?_⟩,?_,?_⟩<;>omega
 ·have:preSum (numAt g.toArray) g.toArray.size=a.sum:=by rw[aau,b,nM c _ (aaf _),aaL]
  rw[this];exact⟨.int _,H,I.kept k,⟨_,rfl⟩,q⟩
end L2
namespace L2
open PySem PySem.Spec PyProof.Rows
end L2
namespace L2
open PySem
def xK(c:X.K=K)(d:PE X l a):PI X b l (Cw K a):=by subst c;exact h_ d
open PySem.Spec PyProof.Rows PySem.SeqAt
abbrev jW(h:ZN)(z TI TO:Zl)(a:ZI)(b:Bool):Prop:=
 h.get? z=some {cls:=.type "zip",dict:=none,data:=.fields #[a,.bool b,.bool false,.ref TI,.ref TO],slots:=#[]}
section
variable{prog:ZE}{w:ZH}{A:ZO}{E:ZY}{s:Zp}
def Ea(h:Q (s.heap.get? a) s):wpAny (model prog w) A (loadIfAlive a) Q E s:=by exactλ_ _ _=>h
def G4{z TI TO:Zl}{g:ZI}{b:Bool}{Q:Bool->Shared->Prop}(f:jW s.heap z TI TO g b)(l:g=.none\/∃a:Int,g=rawInt a)
 (i:Q true s)(j:∀h,jW h z TI TO g true->Heap.SameBut z s.heap h->Q false {s with heap:=h}):wpAny (model prog w) A (Builtin.SmallTypes.ownedTupleIsFree (.ref z)) Q E s:=by
 unfold Builtin.SmallTypes.ownedTupleIsFree;rcases l with rfl|⟨a,rfl⟩
 ·exact aaa (aaN f rfl (x:=.none) rfl (aae i))
 ·refine aaa (aaN f rfl (x:=rawInt a) rfl ?_);show wpAny _ _ (loadIfAlive a.toNat>>=_) _ _ _;refine aaa (Ea ?_);cases hR:s.heap.get? a.toNat with
  |none=>exact aae i
  | some o=>
    show wpAny _ _ (field (.ref z) 1>>=_) _ _ _;refine aaa (aaN f rfl (x:=.bool b) rfl ?_);cases b with
    |true=>exact aae (j s.heap f (Heap.SameBut.refl ..))
    | false=>show wpAny _ _ (setField (.ref z) 1 (.bool true)>>=_) _ _ _;exact aaa (aa7 f (by simp) λe c d=>aae (j e c d))
structure ZS(h:ZN)(z TI TO i1 i2 a1 a2:Zl)(k1 k2:Nat):Prop where
 zz:∃f0 b,jW h z TI TO f0 b/\(f0=.none\/∃a:Int,f0=rawInt a)
 ti:IsPair h TI (.ref i1) (.ref i2)
 to:∃x y,IsPair h TO x y
 h1:h.IsTupleIter i1 a1 k1
 h2:h.IsTupleIter i2 a2 k2
def iK(x:h.IsTupleIter a l i)(d:Heap.ExtBut c h b)(f:a≠c):b.IsTupleIter a l i:=x.at λo e=>d _ _ f e
def j_(x:h.IsTuple l b)(d:Heap.ExtBut c h a)(f:l≠c):a.IsTuple l b:=let⟨o,e,r⟩:=x;⟨o,d _ _ f e,r⟩
def C_{z TI TO i1 i2 a1 a2:Zl}{k1 k2:Nat}{xs ys:YA}{Q:ZY}(hh:A.handled=none)(D:ZipApart z TI TO i1 i2 a1 a2)(S:ZS s.heap z TI TO i1 i2 a1 a2 k1 k2)
 (t1:s.heap.IsTuple a1 xs)(t2:s.heap.IsTuple a2 ys)(hQ:∀x y,xs[k1]?=some x->ys[k2]?=some y->∀h',ZS h' z TI TO i1 i2 a1 a2 (k1+1) (k2+1)->IsPair h' s.heap.objs.size x y->h'.objs.size=s.heap.objs.size+1->(∀c o,c≠z->c≠TO->c≠i1->c≠i2->s.heap.get? c=some o->h'.get? c=some o)->Q (.ref s.heap.objs.size) {s with heap:=h'})
 (hE:(xs[k1]?=none\/ys[k2]?=none)->∀h' e,(∀c o,c≠z->c≠TO->c≠i1->c≠i2->s.heap.get? c=some o->h'.get? c=some o)->(∃o,h'.get? e=some o/\o.cls=.type "StopIteration")->E (.ref e) {s with heap:=h'}):
 wpAny (model prog w) A (Builtin.«zip.__next__» ⟨[.ref z],[]⟩) (λfin s'=>∃v,fin=.done (.ret v)/\Q v s') E s:=by
 obtain ⟨⟨f0,b,hz,hf⟩,al,⟨a,b',ap⟩,h1,h2⟩:=S;show wpAny _ _ (field (.ref z) 2>>=_) _ _ _;refine aaa (aaN hz rfl (x:=.bool false) rfl ?_);show wpAny _ _ (field (.ref z) 3>>=_) _ _ _;refine aaa (aaN hz rfl (x:=.ref TI) rfl ?_);refine aaa (abJ al rfl ?_);show wpAny _ _ (Builtin.SmallTypes.ownedTupleIsFree (.ref z)>>=_) _ _ _;refine aaa (G4 hz hf ?_ λaq ag i=>?_)
 ·simp only [if_true];refine aaa (abm ?_);refine aaa (aaN hz rfl (x:=.ref TO) rfl ?_);refine aaa (aa7 hz (by simp) λam q j=>?_)
  replace q:jW am z TI TO .ellipsis b:=q
  refine aaa ?_;simp only [List.zipIdx_cons,List.zipIdx_nil,ack,List.forIn_nil];refine aaa (aaa (wpAny_onRaise ?_));show wpAny _ _ (Builtin.SmallTypes.nextOf (.ref i1)>>=_) _ _ _;cases hx:xs[k1]? with
  | none=>
    refine aaa (mF hh (iK h1 j.extBut D.i1z) (j_ t1 j.extBut D.l1z) hx λB e d⟨oe,I,W⟩=>?_);have Y:jW B z TI TO .ellipsis b:=d _ _ D.i1z.symm q;have ah:e≠z:=λx=>by subst x;rw [Y]at I;cases I;simp at W
    exact aa7 Y (by simp) λR _ l=>hE (.inl hx) R e (λc o r _ G _ x=>l.extBut _ _ r (d _ _ G (j.extBut _ _ r x))) ⟨oe,l.extBut _ _ ah I,W⟩
  |some x=>
  refine aaa (ni (iK h1 j.extBut D.i1z) (j_ t1 j.extBut D.l1z) hx λB J d=>aae ?_);have T:IsPair B TO a b':=d.extBut _ _ D.TOi1 (j.extBut _ _ D.TOz ap);refine aaa (abJ T rfl ?_);refine aaa (wpAny_updateSeq_pair T λR C l=>?_)
  replace C:IsPair R TO x b':=C
  refine aaa (wpAny_letGo (aae ?_));refine aaa (aaa (wpAny_onRaise ?_));show wpAny _ _ (Builtin.SmallTypes.nextOf (.ref i2)>>=_) _ _ _;have I2:=iK (iK (iK h2 j.extBut D.i2z) d.extBut D.i12.symm) l.extBut D.TOi2.symm;have T2:=j_ (j_ (j_ t2 j.extBut D.l2z) d.extBut D.l2i1) l.extBut D.l2TO;have up:∀c o,c≠z->c≠TO->c≠i1->s.heap.get? c=some o->R.get? c=some o:=λc o r U G e=>l.extBut _ _ U (d.extBut _ _ G (j.extBut _ _ r e));cases hy:ys[k2]? with
  | none=>
    refine aaa (mF hh I2 T2 hy λg e f⟨oe,I,W⟩=>?_);have F:jW g z TI TO .ellipsis b:=f _ _ D.i2z.symm (l.extBut _ _ D.TOz.symm (d.extBut _ _ D.i1z.symm q));have ah:e≠z:=λx=>by subst x;rw [F]at I;cases I;simp at W
    exact aa7 F (by simp) λh _ m=>hE (.inr hy) h e (λc o r U G X x=>m.extBut _ _ r (f _ _ X (up c o r U G x))) ⟨oe,m.extBut _ _ ah I,W⟩
  |some y=>
  refine aaa (ni I2 T2 hy λg L f=>aae ?_);have p:IsPair g TO x b':=f.extBut _ _ D.TOi2 C;refine aaa (abJ p rfl ?_);refine aaa (wpAny_updateSeq_pair p λh n m=>?_)
  replace n:IsPair h TO x y:=n
  refine aaa (wpAny_letGo (aae (aae ?_)));refine aaa (abJ n rfl ?_);refine aaa (wpAny_newTuple ?_);have Z:h.objs.size=s.heap.objs.size:=by rw [m.1,f.1,l.1,d.1,j.1]
  have aa:jW h z TI TO .ellipsis b:=m.extBut _ _ D.TOz.symm (f.extBut _ _ D.i2z.symm (l.extBut _ _ D.TOz.symm (d.extBut _ _ D.i1z.symm q)));have ab:∀c o,c≠z->c≠TO->c≠i1->c≠i2->s.heap.get? c=some o->h.get? c=some o:=λc o r U G X e=>m.extBut _ _ U (f.extBut _ _ X (up c o r U G e));have ai:h.IsTupleIter i1 a1 (k1+1):=iK (iK (iK J l.extBut D.TOi1.symm) f.extBut D.i12) m.extBut D.TOi1.symm;have aj:h.IsTupleIter i2 a2 (k2+1):=iK L m.extBut D.TOi2.symm;have af:z<h.objs.size:=aaq aa;show wpAny _ _ (Builtin.SmallTypes.ownedTupleHandOut (.ref z) (.ref h.objs.size)>>=_) _ _ _;refine aaa ?_;unfold Builtin.SmallTypes.ownedTupleHandOut;have ak:jW (h.push {cls:=.type "tuple",data:=.seq #[x,y]}) z TI TO .ellipsis b:=aan _ aa;refine aaa (aa7 ak (by simp) λao M N=>?_)
  replace M:jW ao z TI TO (rawInt h.objs.size) b:=M
  refine aa7 M (by simp) λH O P=>?_
  replace O:jW H z TI TO (rawInt h.objs.size) false:=O
  have up:∀c o,c≠z->h.get? c=some o->H.get? c=some o:=λc o r e=>P.extBut _ _ r (N.extBut _ _ r (aan _ e));have ac:IsPair H h.objs.size x y:=P.extBut _ _ (acd af) (N.extBut _ _ (acd af) (aaC _ rfl));have ad:H.objs.size=h.objs.size+1:=by rw [P.1,N.1,aa5]
  rw [Z]at ac ad;refine aae ⟨_,rfl,?_⟩;show Q (.ref h.objs.size) _;rw [Z];exact hQ x y hx hy H ⟨⟨_,_,O,.inr ⟨_,rfl⟩⟩,up _ _ D.TIz (ab _ _ D.TIz D.TITO D.TIi1 D.TIi2 al),⟨_,_,up _ _ D.TOz n⟩,ai.at λo e=>up _ o D.i1z e,aj.at λo e=>up _ o D.i2z e⟩ ac ad λc o r U G X e=>up c o r (ab c o r U G X e)
 ·simp only [acN,if_false];rw [<-Array.forIn_toList];simp only [ack,List.forIn_nil];refine aaa (aaa (aaa (abg ?_)));show wpAny _ _ (Builtin.SmallTypes.nextOf (.ref i1)>>=_) _ _ _;cases hx:xs[k1]? with
  |none=>exact aaa (mF hh (iK h1 i.extBut D.i1z) (j_ t1 i.extBut D.l1z) hx λB e d he=>hE (.inl hx) B e (λc o r _ G _ x=>d _ _ G (i.extBut _ _ r x)) he)
  |some x=>
  refine aaa (ni (iK h1 i.extBut D.i1z) (j_ t1 i.extBut D.l1z) hx λB J d=>aae (aae ?_));dsimp only;refine aaa (aaa (abg ?_));show wpAny _ _ (Builtin.SmallTypes.nextOf (.ref i2)>>=_) _ _ _;have I2:=iK (iK h2 i.extBut D.i2z) d.extBut D.i12.symm;have T2:=j_ (j_ t2 i.extBut D.l2z) d.extBut D.l2i1;cases hy:ys[k2]? with
  |none=>exact aaa (mF hh I2 T2 hy λg e f he=>hE (.inr hy) g e (λc o r U G X x=>f _ _ X (d.extBut _ _ G (i.extBut _ _ r x))) he)
  |some y=>
  refine aaa (ni I2 T2 hy λg L f=>aae (aae ?_));dsimp only;refine aae ?_;dsimp only;refine aaa (wpAny_newTuple ?_ (by ext));have Z:g.objs.size=s.heap.objs.size:=by rw [f.1,d.1,i.1]
  have ae:∀c o,c≠z->c≠TO->c≠i1->c≠i2->s.heap.get? c=some o->g.get? c=some o:=λc o r U G X e=>f.extBut _ _ X (d.extBut _ _ G (i.extBut _ _ r e));have F:jW g z TI TO f0 true:=f.extBut _ _ D.i2z.symm (d.extBut _ _ D.i1z.symm ag);have up:∀c o,g.get? c=some o->(g.push {cls:=.type "tuple",data:=.seq #[x,y]}).get? c=some o:=λc o e=>aan _ e;refine aae ⟨_,rfl,?_⟩;show Q (.ref g.objs.size) _;have hT:IsPair (g.push {cls:=.type "tuple",data:=.seq #[x,y]}) g.objs.size x y:=aaC _ rfl;have ad:(g.push {cls:=.type "tuple",data:=.seq #[x,y]}).objs.size=g.objs.size+1:=aa5 ..;rw [Z]at hT ad;rw [Z];have p:IsPair g TO a b':=f.extBut _ _ D.TOi2 (d.extBut _ _ D.TOi1 (i.extBut _ _ D.TOz ap));exact hQ x y hx hy _ ⟨⟨_,_,up _ _ F,hf⟩,up _ _ (ae _ _ D.TIz D.TITO D.TIi1 D.TIi2 al),⟨_,_,up _ _ p⟩,(iK J f.extBut D.i12).at λo e=>up _ o e,L.at λo e=>up _ o e⟩ hT ad λc o r U G X e=>up c o (ae c o r U G X e)
def N8{z TI TO g h d f:Zl}{i k2:Nat}{j ys:YA}{Q:ZY}(v:A.handled=none)(D:ZipApart z TI TO g h d f)(S:ZS s.heap z TI TO g h d f i k2)
 (B:s.heap.IsTuple d j)(C:s.heap.IsTuple f ys)(G:∀x y,j[i]?=some x->ys[k2]?=some y->∀a,ZS a z TI TO g h d f (i+1) (k2+1)->IsPair a s.heap.objs.size x y->a.objs.size=s.heap.objs.size+1->(∀c o,c≠z->c≠TO->c≠g->c≠h->s.heap.get? c=some o->a.get? c=some o)->Q (.ref s.heap.objs.size) {s with heap:=a})
 (H:(j[i]?=none\/ys[k2]?=none)->∀a e,(∀c o,c≠z->c≠TO->c≠g->c≠h->s.heap.get? c=some o->a.get? c=some o)->(∃o,a.get? e=some o/\o.cls=.type "StopIteration")->E (.ref e) {s with heap:=a}):wpAny (model prog w) A (Builtin.SmallTypes.nextOf (.ref z)) Q E s:=by
 obtain⟨I,b,r,_⟩:=S.zz;have l:s.TypeIs (.ref z) "zip":=⟨_,r,rfl⟩;unfold Builtin.SmallTypes.nextOf;exact aaa (wpAny_callSpecial?_slot (name:=Str.ofString "__next__") l F.slot_zip_next (abc F.slot_zip_next l F.entry_zip_next (C_ (A:=A.in1) v D S B C (λx y m n a d f p q=>aae (G x y m n a d f p q)) H) (F.args_zip_next_1 _)))
def E_{e N:Zl}{i:Nat}{I:ZI}{Q:ZY}(he:IsEnum s.heap e N i I)
 (U:wpAny (model prog w) A (Builtin.SmallTypes.nextOf (.ref N)) (λx O=>∃a tk,O={s with heap:=a,toks:=tk}/\IsEnum a e N i I/\∀W,IsEnumOut W e N ((i:Int)+1) x a.objs.size->W.get? a.objs.size=some {cls:=.type "tuple",data:=.seq #[.int i tk,x]}->(∀b o,b≠e->a.get? b=some o->W.get? b=some o)->Q (.ref a.objs.size) {s with heap:=W,toks:=tk+1}) E s):
 wpAny (model prog w) A (Builtin.«enumerate.__next__» ⟨[.ref e],[]⟩) (λX s'=>∃v,X=.done (.ret v)/\Q v s') E s:=by
 obtain⟨hp,g,d,Z,R⟩:=s;show wpAny _ _ (field (.ref e) 2>>=_) _ _ _;refine aaa (aaN he rfl (x:=.ref N) rfl ?_);refine aaa (aaG U (λx O hx=>?_) λ_ _ z=>z);obtain⟨a,tk,rfl,D,hQ⟩:=hx;show wpAny _ _ (field (.ref e) 3>>=_) _ _ ⟨a,g,d,tk,R⟩;refine aaa (aaN D rfl (x:=rawInt i) rfl ?_);show wpAny _ _ (field (.ref e) 4>>=_) _ _ ⟨a,g,d,tk,R⟩;refine aaa (aaN D rfl (x:=.none) rfl ?_);show wpAny _ _ (mkInt i>>=_) _ _ ⟨a,g,d,tk,R⟩;refine aaa (wpAny_mkInt ?_);show wpAny _ _ (setField (.ref e) 3 (rawInt ((i:Int)+1))>>=_) _ _ ⟨a,g,d,tk+1,R⟩;refine aaa (aa7 D (by simp) λF m f=>?_)
 replace f:Heap.SameBut e a F:=f
 replace m:IsEnum F e N ((i:Int)+1) I:=m
 show wpAny _ _ (setField (.ref e) 4 .none>>=_) _ _ ⟨F,g,d,tk+1,R⟩;refine aaa (aa7 m (by simp) λc h j=>?_)
 replace j:Heap.SameBut e F c:=j
 replace h:IsEnum c e N ((i:Int)+1) I:=h
 show wpAny _ _ (newTuple [.int i tk,x]>>=_) _ _ ⟨c,g,d,tk+1,R⟩;refine aaa (wpAny_newTuple ?_);have l:IsEnum (c.push {cls:=.type "tuple",data:=.seq #[.int i tk,x]}) e N ((i:Int)+1) I:=aan _ h;have Y:c.objs.size=a.objs.size:=by rw[j.1,f.1]
 have C:(c.push {cls:=.type "tuple",data:=.seq #[.int i tk,x]}).get? c.objs.size=some {cls:=.type "tuple",data:=.seq #[.int i tk,x]}:=aaC _ rfl;have M:∀b o,b≠e->a.get? b=some o->(c.push {cls:=.type "tuple",data:=.seq #[.int i tk,x]}).get? b=some o:=λb o S P=>aan _ (j.extBut b o S (f.extBut b o S P));have T:e<c.objs.size:=aaq h;generalize c.push {cls:=.type "tuple",data:=.seq #[.int i tk,x]}=H at l C M;rw[Y]at C T|-;show wpAny _ _ (Builtin.SmallTypes.ownedTupleIsFree (.ref e)>>=_) _ _ ⟨H,g,d,tk+1,R⟩;refine aaa ?_;unfold Builtin.SmallTypes.ownedTupleIsFree;refine aaa (aaN l rfl (x:=.none) rfl (aae ?_));simp only[if_true];refine aaa (abm ?_);show wpAny _ _ (field (.ref e) 5>>=_) _ _ _;refine aaa (aaN l rfl (x:=I) rfl ?_);show wpAny _ _ (setField (.ref e) 5 x>>=_) _ _ ⟨H,g,d,tk+1,R⟩;refine aaa (aa7 l (by simp) λJ n p=>?_)
 replace n:IsEnum J e N ((i:Int)+1) x:=n
 replace p:Heap.SameBut e H J:=p
 show wpAny _ _ (Builtin.SmallTypes.ownedTupleHandOut (.ref e) (.ref a.objs.size)>>=_) _ _ _;refine aaa ?_;unfold Builtin.SmallTypes.ownedTupleHandOut;refine aaa (aa7 n (by simp) λL q r=>?_)
 replace r:Heap.SameBut e J L:=r
 replace q:IsEnumOut L e N ((i:Int)+1) x a.objs.size:=q
 refine aa7 q (by simp) λG y B=>?_
 replace B:Heap.SameBut e L G:=B
 replace y:IsEnumOut G e N ((i:Int)+1) x a.objs.size:=y
 refine aaa (wpAny_letGo (aae ⟨_,rfl,?_⟩));have up:∀b o,b≠e->H.get? b=some o->G.get? b=some o:=λb o P z=>B.extBut b o P (r.extBut b o P (p.extBut b o P z));exact hQ G y (up _ _ (acd T) C) λb o P z=>up b o P (M b o P z)
end
abbrev Wt(h:ZN)(a:Zl):Heap:=h.push {cls:=.type "tuple_iterator",data:=.fields #[.ref a,.int 0 0]}
abbrev We(h:ZN)(a b:Zl):Heap:=(Wt h a).push {cls:=.type "tuple_iterator",data:=.fields #[.ref b,.int 0 0]}
abbrev Wz(h:ZN)(a b:Zl):Heap:=(We h a b).push {cls:=.type "tuple",data:=.seq #[.ref h.objs.size,.ref (Wt h a).objs.size]}
abbrev Wy(h:ZN)(a b:Zl):Heap:=(Wz h a b).push {cls:=.type "tuple",data:=.seq #[.none,.none]}
abbrev Q_(h:ZN)(a b:Zl):Heap:=(Wy h a b).push {cls:=.type "zip",data:=.fields #[.none,.bool false,.bool false,.ref (We h a b).objs.size,.ref (Wz h a b).objs.size]}
def Je(a b:Zl)(q ys:YA):
 Meets (Builtin.«zip.__new__» ⟨[.type "zip",.ref a,.ref b],[]⟩) (λ_ R s=>s.heap.IsTuple a q/\s.heap.IsTuple b ys/\R (.ok (.ret (.ref (Wy s.heap a b).objs.size))) {s with heap:=Q_ s.heap a b}):=
 .of_wp λl w A R s h=>by
  obtain⟨n,g,d,tk,p⟩:=s;obtain⟨i,j,h⟩:=h;have m:=sub_zip;have c:Heap.IsTuple (Shared.heap ⟨n,g,d,tk,p⟩) a q:=i;have f:Heap.IsTuple (Shared.heap ⟨n.push {cls:=.type "tuple_iterator",data:=.fields #[.ref a,.int 0 0]},g,d,tk,p⟩) b ys:=let⟨o,e,r⟩:=j;⟨o,aan _ e,r⟩
  wp_walk using abT c,abT f
  exact⟨_,rfl,h⟩
def Ed(f:s.heap.IsTuple a m)(g:s.heap.IsTuple b ys)
 (h:∀d,jW d (s.heap.objs.size+4) (s.heap.objs.size+2) (s.heap.objs.size+3) .none false->IsPair d (s.heap.objs.size+2) (.ref s.heap.objs.size) (.ref (s.heap.objs.size+1))->IsPair d (s.heap.objs.size+3) .none .none->d.IsTupleIter s.heap.objs.size a 0->d.IsTupleIter (s.heap.objs.size+1) b 0->d.objs.size=s.heap.objs.size+5->(∀c o,s.heap.get? c=some o->d.get? c=some o)->Q (.ref (s.heap.objs.size+4)) {s with heap:=d}):
 wpAny (model p w) A (call (.type "zip") [.ref a,.ref b]) Q E s:=by
 refine callType_new F.called_zip (by decide) (F.typeCall_zip_2 _ _) (F.newCall_zip_2 _ _) (λobj=>F.args_object_init_3 obj _ _) F.entry_zip_new
  (Je a b m ys) ⟨f,g,?_⟩;have z1:(Wt s.heap a).objs.size=s.heap.objs.size+1:=aa5 ..;have z2:(We s.heap a b).objs.size=s.heap.objs.size+2:=by rw[aa5,z1]
 have z3:(Wz s.heap a b).objs.size=s.heap.objs.size+3:=by rw[aa5,z2]
 have z4:(Wy s.heap a b).objs.size=s.heap.objs.size+4:=by rw[aa5,z3]
 have z5:(Q_ s.heap a b).objs.size=s.heap.objs.size+5:=by rw[aa5,z4]
 have e:(Q_ s.heap a b).get? (Wy s.heap a b).objs.size=some _:=aaC _ rfl;have i:(Q_ s.heap a b).get? (Wz s.heap a b).objs.size=some _:=aan _ (aaC _ rfl);have j:(Q_ s.heap a b).get? (We s.heap a b).objs.size=some _:=aan _ (aan _ (aaC _ rfl));have l:(Q_ s.heap a b).get? (Wt s.heap a).objs.size=some _:=aan _ (aan _ (aan _ (aaC _ rfl)));have n:(Q_ s.heap a b).get? s.heap.objs.size=some _:=aan _ (aan _ (aan _ (aan _ (aaC _ rfl))));show _/\_;rw[z2,z3,z4]at e;rw[z1,z2]at j;rw[z3]at i;rw[z1]at l;rw[z4];exact⟨⟨_,e,rfl⟩,h _ e j i ⟨_,n,rfl,rfl⟩ ⟨_,l,rfl,rfl⟩ z5 λc o x=>aan _ (aan _ (aan _ (aan _ (aan _ x))))⟩
def uZ{s:Zp}{z TI TO:Zl}{c:ZI}{b:Bool}{Q:ZY}(d:jW s.heap z TI TO c b)(h:Q (.ref z) s):wpAny (model e w) A (pyIter (.ref z)) Q E s:=by have a:s.TypeIs (.ref z) "zip":=⟨_,d,rfl⟩;refine wpAny_pyIter_slot a F.slot_zip_iter (abc F.slot_zip_iter a F.entry_zip_iter ?_ (F.args_zip_iter_1 _));show wpAny _ _ (ret (.ref z)) _ _ s;exact aae ⟨_,rfl,"zip",_,a,F.slot_zip_next.lookup,h⟩
set_option tactic.hygienic true in
def Dj(z TI TO:Zl):
 Meets (Builtin.«enumerate.__new__» ⟨[.type "enumerate",.ref z],[]⟩) (λ_ R s=>jW s.heap z TI TO .none false/\R (.ok (.ret (.ref s.heap.objs.size))) {s with heap:=s.heap.push {cls:=.type "enumerate",data:=.fields #[.none,.bool false,.ref z,rawInt 0,.none,.none]}}):=
 .of_wp λb w A R s h=>by
  obtain⟨i,g,d,tk,j⟩:=s;obtain⟨a,h⟩:=h;have e:=sub_enumerate;have f:jW (Shared.heap ⟨i,g,d,tk,j⟩) z TI TO .none false:=a
  wp_walk using abK a
  refine wpAny_stack_any λl=>aae ?_;split
  ·rename_i c _ _ _ _ _;cases(c==Value.type "enumerate")<;>(wp_walk using abK a,uZ f;exact⟨_,rfl,h⟩)
  ·wp_walk using abK a,uZ f
   exact⟨_,rfl,h⟩
def Ai{a:ZE}{w:ZH}{A:ZO}{E:ZY}{s:Zp}{z TI TO:Zl}{Q:ZY}(d:jW s.heap z TI TO .none false)
 (h:∀g,IsEnum g s.heap.objs.size z 0 .none->(∀b o,s.heap.get? b=some o->g.get? b=some o)->Q (.ref s.heap.objs.size) {s with heap:=g}):wpAny (model a w) A (call (.type "enumerate") [.ref z]) Q E s:=by
 refine callType_new F.called_enumerate (by decide) (F.typeCall_enumerate_1 _) (F.newCall_enumerate_1 _) (λobj=>F.args_object_init_2 obj _) F.entry_enumerate_new (Dj z TI TO) ⟨d,?_⟩;have c:=aaC s.heap (o:={cls:=.type "enumerate",data:=.fields #[.none,.bool false,.ref z,rawInt 0,.none,.none]}) rfl;exact⟨⟨_,c,rfl⟩,h _ c λb o x=>aan _ x⟩
noncomputable def YC(K:Zs)(b c:Zl):It:=
 ⟨λi H=>∃a ys x y,gf K H b a/\gf K H c ys/\a[i]?=some x/\ys[i]?=some y,λi H v d=>∃q p x y,H q=none/\upd H q (.tup [x,y]) p=none/\v=.ref p/\(∀a,gf K H b a->a[i]?=some x)/\(∀ys,gf K H c ys->ys[i]?=some y)/\d=upd (upd H q (.tup [x,y])) p (.tup [.int i,.ref q]),λi H=>∃a ys,gf K H b a/\gf K H c ys/\(a.length<=i\/ys.length<=i)⟩
structure wN(e z TI TO i1 i2:Zl):Prop where
 ez:e≠z
 eTI:e≠TI
 eTO:e≠TO
 e1:e≠i1
 e2:e≠i2
 TIz:TI≠z
 TOz:TO≠z
 i1z:i1≠z
 i2z:i2≠z
 TITO:TI≠TO
 TIi1:TI≠i1
 TIi2:TI≠i2
 TOi1:TO≠i1
 TOi2:TO≠i2
 i12:i1≠i2
abbrev EZ(e z TI TO b c d f:Zl)(i:Nat)(h:ZN):Prop:=(∃a,IsEnum h e z i a)/\ZS h z TI TO b c d f i i
def EZ.obj{e z TI TO f g s w:Zl}{i:Nat}{h:ZN}(A:EZ e z TI TO f g s w i h):∀b∈[e,z,TI,TO,f,g],∃o,h.get? b=some o/\∀v,o.data≠.cell v:=by
 obtain⟨⟨j,l⟩,⟨B,C,m,_⟩,a,⟨x,y,c⟩,⟨o1,n,_,p⟩,⟨D,q,_,r⟩⟩:=A;intro b d;simp only[aai,aa4,or_false]at d;rcases d with rfl|rfl|rfl|rfl|rfl|rfl
 ·exact⟨_,l,λv z=>by cases z⟩
 ·exact⟨_,m,λv z=>by cases z⟩
 ·exact⟨_,a,λv z=>by cases z⟩
 ·exact⟨_,c,λv z=>by cases z⟩
 ·exact⟨_,n,λv z=>by rw[p]at z;cases z⟩
 ·exact⟨_,q,λv z=>by rw[r]at z;cases z⟩
def ZS.keep{z TI TO d f g j:Zl}{i:Nat}{h l:ZN}(v:ZS h z TI TO d f g j i i)(k:∀b∈[z,TI,TO,d,f],∀o,h.get? b=some o->l.get? b=some o):ZS l z TI TO d f g j i i:=by obtain⟨⟨m,n,p,q⟩,a,⟨x,y,c⟩,r,s⟩:=v;exact⟨⟨m,n,k _ (by simp) _ p,q⟩,k _ (by simp) _ a,⟨x,y,k _ (by simp) _ c⟩,r.at λo e=>k _ (by simp) _ e,s.at λo e=>k _ (by simp) _ e⟩
def ZS.obj{z TI TO d e n p:Zl}{i j:Nat}{h:ZN}(q:ZS h z TI TO d e n p i j):∀b∈[z,TO,d,e],∃o,h.get? b=some o:=by
 obtain⟨⟨r,s,f,_⟩,g,⟨x,y,a⟩,⟨o1,l,_,v⟩,⟨w,m,_,A⟩⟩:=q;intro b c;simp only[aai,aa4,or_false]at c;rcases c with rfl|rfl|rfl|rfl
 ·exact⟨_,f⟩
 ·exact⟨_,a⟩
 ·exact⟨_,l⟩
 ·exact⟨_,m⟩
def Hg(I:Inv X c g H s)(j:gf X.K H a i)(d:km X c H b):a≠b:=by
 rintro rfl;rcases j with h|⟨o,f,n,hk,_⟩
 ·rcases h with h|⟨u,h⟩
  ·rw[d.1]at h;cases h
  ·rw[d.1]at h;cases h
 ·have e:=I.ok.mod.kin _ _ hk;rcases d.2.2.2.1 with z|z
  ·exact I.ok.noex _ _ e z
  ·exact absurd (aaq (I.ok.bs _ _ e).1) (Nat.not_lt.mpr z)
def Inv.turnedN{X:Cx}{a:YN}{g:St}{H:Hp}{s:Zp}{h:ZN}{B:Nat}{fp:YI}(I:Inv X a g H s)(k:∀b u,b∉fp->s.heap.get? b=some u->h.get? b=some u)(f:∀b∈fp,km X a H b):Inv X a g H {s with heap:=h,toks:=B}:=by
 have off:∀b u,H b=some u->b∉fp:=λb u e z=>by rw[(f b z).1]at e;cases e
 refine I.step (g':=s.gens) (d':=s.drawn) (ch:=fp) (λb i=>?_) (λb u _ _ d e _=>k b u d e) (λb u _ _ d e _=>⟨u.slots,k b u d e⟩) (λ_ _ _ _ n=>n) (λb u d e=>⟨u,k b u d e⟩) (λ_ _ e=>e) (λ_ _ _ e=>e) (λb C e=>⟨#[],by rw[e];simp⟩) (λm j=>?_) (λb u e=>?_) I.bare
 ·obtain⟨_,l,_,o,p,w⟩:=f b i;exact⟨o,l,p,w⟩
 ·obtain⟨u,x,y,A,r⟩:=j;exact⟨u,x,y,k _ u (λz=>(f _ z).2.1 rfl) A,r⟩
 ·refine(I.hok b u e).stay (λc v d q=>k c v ?_ q) (λc q=>q) λc D q=>q;rcases d with rfl|z
  ·exact off _ u e
  ·exact off c _ z
def km.upd(h:km X c H b)(ne:b≠a):km X c (upd H a o) b:=⟨by rw[c7 ne];exact h.1,h.2⟩
def wN.zip{X:Cx}{a:YN}{r:St}{H:Hp}{s:Zp}{f g e z TI TO c d:Zl}{v ys:List V}(D:wN e z TI TO c d)(I:Inv X a r H s)(q:∀b∈[e,z,TI,TO,c,d],km X a H b)(h:gf X.K H f v)(i:gf X.K H g ys):ZipApart z TI TO c d f g:=by have p:∀b∈[e,z,TI,TO,c,d],f≠b/\g≠b:=λb j=>⟨Hg I h (q b j),Hg I i (q b j)⟩;simp only[aai,aa4,or_false,forall_eq_or_imp,forall_eq]at p;obtain⟨_,l,_,m,n,o⟩:=p;exact⟨D.TIz,D.TOz,D.i1z,D.i2z,D.TITO,D.TIi1,D.TIi2,D.TOi1,D.TOi2,D.i12,l.1,m.1,n.1,o.1,l.2,m.2,n.2,o.2⟩
def As{P:ZE}{w:ZH}{K:Zs}{elts:YU}{k1}{pos:Pos}(a1 a2 e z TI TO B C:Zl)(D:wN e z TI TO B C):
 Turn P w K (.Tuple elts k1 pos) (YC K a1 a2) [e,z,TI,TO,B,C] e (EZ e z TI TO B C a1 a2)where
 mem:=by simp
 obj:=λi h v b a=>v.obj b a
 keep:=λi h h' v k=>⟨let⟨n,h1⟩:=v.1;⟨n,k e (by simp) _ h1⟩,v.2.keep λb a o z=>k b (aah _ a) o z⟩
 item:=by
  intro X hP hw hK hc i p s σ H E I M v hg;subst hP hw hK;obtain⟨xs,ys,x,y,j,l,hx,hy⟩:=hg;obtain⟨d,R,p1,_⟩:=I.tuple j;obtain⟨f,U,p2,_⟩:=I.tuple l;obtain⟨u1,hu1,ae⟩:=R.get hx;obtain⟨u2,af,ag⟩:=U.get hy;have t1:s.heap.IsTuple a1 d.toArray:=p1;have t2:s.heap.IsTuple a2 f.toArray:=p2;obtain⟨⟨n,G⟩,S⟩:=v;have free:∀b∈[e,z,TI,TO,B,C],H b=none:=λb a=>(M b a).1;have ZA:=D.zip I M j l;have Z:s.TypeIs (.ref e) "enumerate":=⟨_,G,rfl⟩;unfold pyNext;refine aaa (wpAny_attempt (wpAny_callSpecial?_slot (name:=Str.ofString "__next__") Z acq (abc acq Z F.entry_enumerate_next (E_ G ?_) (F.args_enumerate_next_1 _))));have q1:d.toArray[i]?=some u1:=by simpa using hu1
  have q2:f.toArray[i]?=some u2:=by simpa using af
  refine N8 (I.ok.hd hc) ZA S t1 t2 (λx' y' e1 e2 c J N O m=>?_) λz=>by rcases z with z|z<;>simp_all
  obtain rfl:=aaW (q1.symm.trans e1);obtain rfl:=aaW (q2.symm.trans e2);have Q:IsEnum c e z i n:=m _ _ D.ez D.eTO D.e1 D.e2 G;refine⟨c,s.toks,rfl,Q,λh' ho ht W=>aae ⟨_,rfl,?_⟩⟩;have lt:∀b∈[e,z,TI,TO,B,C],b<s.heap.objs.size:=λb a=>by obtain⟨o,z',_⟩:=EZ.obj (⟨⟨n,G⟩,S⟩:EZ e z TI TO B C a1 a2 i s.heap) b a;exact aaq z'
  have I1:Inv X p σ (upd H s.heap.objs.size (.tup [x,y])) {s with heap:=c,toks:=s.toks}:=by
   refine I.turnLaid (fp:=[z,TO,B,C]) (λb o a q=>m b o (λr=>a (by simp[r])) (λr=>a (by simp[r])) (λr=>a (by simp[r])) (λr=>a (by simp[r])) q) (λb a=>?_) (λb a=>M b ?_) (aaf _) ?_
   ·exact J.obj b a
   ·simp at a|-;rcases a with h|h|h|h<;>simp[h]
   ·exact⟨by show 2<=sizeLine;decide,[u1,u2],.cons ae (.cons ag .nil),⟨_,N,rfl,_,rfl⟩⟩
  have aa:∀b∈[e,z,TI,TO,B,C],(upd H s.heap.objs.size (.tup [x,y])) b=none:=λb a=>by rw[c7 (aay (lt b a))];exact free b a
  have ad:(upd H s.heap.objs.size (.tup [x,y])) c.objs.size=none:=I1.hok.fresh (aaf _);have I2:Inv X p σ (upd (upd H s.heap.objs.size (.tup [x,y])) c.objs.size (.tup [.int i,.ref s.heap.objs.size])) {s with heap:=h',toks:=s.toks+1}:=by
   refine Inv.turnLaid (s:={s with heap:=c,toks:=s.toks}) (fp:=[e]) I1 (λb o a q=>W b o (λr=>a (by simp[r])) q) (λb a=>?_) (λb a=>?_) (aaf _) ?_
   ·cases aam.mp a;exact⟨_,ho⟩
   ·cases aam.mp a;exact(M e (by simp)).upd (aay (lt e (by simp)))
   ·exact⟨by show 2<=sizeLine;decide,[.int i s.toks,.ref s.heap.objs.size],.cons ⟨_,rfl⟩ (.cons rfl .nil),⟨_,ht,rfl,_,rfl⟩⟩
  have L:∀b∈[e,z,TI,TO,B,C],(upd (upd H s.heap.objs.size (.tup [x,y])) c.objs.size (.tup [.int i,.ref s.heap.objs.size])) b=none:=λb a=>by rw[c7 (aay (aaF (lt b a) (by rw[O];exact abo _)))];exact aa b a
  refine wpAny_letOwnedTupleGo_enum ho λg2 ab Y=>?_;obtain⟨f0,f1,f2,f3,f4,f5⟩:=M e (by simp);refine⟨.ref c.objs.size,_,I2.turned (t':=s.toks+1) (λb o a q=>(Y.2 b a).trans q) (L e (by simp)) f1 f3 f4 f5,rfl,⟨s.heap.objs.size,c.objs.size,x,y,I.hok.fresh (aaf _),ad,rfl,λzs hz=>by rw[I.tuple_inj hz j];exact hx,λzs hz=>by rw[I.tuple_inj hz l];exact hy,rfl⟩,⟨⟨_,by simpa using ab⟩,?_⟩,L⟩;refine J.keep λb a o q=>?_;have be:b≠e:=by
   simp only[aai,aa4,or_false]at a;rcases a with rfl|rfl|rfl|rfl|rfl
   ·exact D.ez.symm
   ·exact D.eTI.symm
   ·exact D.eTO.symm
   ·exact D.e1.symm
   ·exact D.e2.symm
  exact(Y.2 b be).trans (W b o be q)
 done:=by intro X hP hw hK hc i p s σ H E I M v hg;subst hP hw hK;obtain⟨xs,ys,j,l,ai⟩:=hg;obtain⟨d,R,p1,_⟩:=I.tuple j;obtain⟨f,U,p2,_⟩:=I.tuple l;have t1:s.heap.IsTuple a1 d.toArray:=p1;have t2:s.heap.IsTuple a2 f.toArray:=p2;obtain⟨⟨n,G⟩,S⟩:=v;have l1:=R.length;have l2:=U.length;have ZA:=D.zip I M j l;have Z:s.TypeIs (.ref e) "enumerate":=⟨_,G,rfl⟩;unfold pyNext;refine aaa (wpAny_attempt (wpAny_callSpecial?_slot (name:=Str.ofString "__next__") Z acq (abc acq Z F.entry_enumerate_next ?_ (F.args_enumerate_next_1 _))));show wpAny _ _ (field (.ref e) 2>>=_) _ _ _;refine aaa (aaN G rfl (x:=.ref z) rfl (aaa (N8 (A:=X.A.in1) (I.ok.hd hc) ZA S t1 t2 (λ_ _ e1 e2=>by simp at e1 e2;have:=(aar.mp e1).1;have:=(aar.mp e2).1;omega) λ_ g x' hk ac=>?_)));obtain⟨o,ho,ah⟩:=ac;refine aaa (wpAny_isInstance (T:="StopIteration") (b:=true) ⟨o,ho,ah⟩ isSubtype_stop (aae ⟨rfl,?_⟩));exact I.turnedN (fp:=[z,TO,B,C]) (λb o a q=>hk b o (λr=>a (by simp[r])) (λr=>a (by simp[r])) (λr=>a (by simp[r])) (λr=>a (by simp[r])) q) (λb a=>M b (by simp at a|-;rcases a with h|h|h|h<;>simp[h]))
 self:=λ_ _ _ _ _ v h=>let⟨_,G⟩:=v.1;acp G h
noncomputable def QL(K:Zs)(f:TA):TI:=λd H R=>f d H λvs a=>∃b c,vs=[.ref b,.ref c]/\(∃e,gf K a b e)/\(∃ys,gf K a c ys)/\R (YC K b c) a
def Ql:bootBuiltins "zip"=some (.type "zip"):=by ext
def FZ{k1}(hg:Gl X "enumerate")(hm:X.mg "enumerate"=none)(M:Gl X "zip")(N:X.mg "zip"=none)(ha:PA X [a,b] U)
 (hs:starEach [a,b] X.env=(false,eval a X.env)::starEach [b] X.env:=by rfl)(O:(backTo c (starEach [b] X.env)).any (·.1)=false:=by rfl)
 (y:starEach [.Call (.Name "zip" A) [a,b] [] c] X.env=(false,eval (.Call (.Name "zip" A) [a,b] [] c) X.env)::starEach [] X.env:=by rfl)(P:(backTo l (starEach [] X.env)).any (·.1)=false:=by rfl):
 PI X (.Tuple x k1 pt) (.Call (.Name "enumerate" p) [.Call (.Name "zip" A) [a,b] [] c] [] l) (QL X.K U):=by
 intro w s σ H R I h;refine Call_ (oR I hg hm o_ (abU ?_ y P));rw[y];show wpAny _ _ (spliced ((false,eval (.Call (.Name "zip" A) [a,b] [] c) X.env)::backTo l (starEach [] X.env))) _ _ s;refine acE ?_;refine abn (oR I M N Ql (abU (gH (ha c w s σ H _ I h) λus d⟨vs,W,m,r1,q1⟩=>?_) hs O) (by decide) (by decide));obtain⟨E,F,rfl,⟨xs,G⟩,⟨ys,J⟩,q⟩:=q1;obtain⟨u1,u2,rfl,e1,e2⟩:=vals2 r1;cases(show u1=Value.ref E from e1);cases(show u2=Value.ref F from e2);obtain⟨r,aa,p1,_⟩:=m.tuple G;obtain⟨v,ab,L,_⟩:=m.tuple J;refine Ed (show d.heap.IsTuple E r.toArray from p1) (show d.heap.IsTuple F v.toArray from L) λi Q B C Y Z j hk=>?_;refine acD ?_;refine Ai (s:={d with heap:=i}) Q λg S f=>acp S ?_;have D:∀b o,d.heap.get? b=some o->g.get? b=some o:=λb o e=>f _ _ (hk _ _ e);have eh:({d with heap:=i}:Zp).heap.objs.size=d.heap.objs.size+5:=j;refine⟨d.heap.objs.size+5,[d.heap.objs.size+5,d.heap.objs.size+4,d.heap.objs.size+2,d.heap.objs.size+3,d.heap.objs.size,d.heap.objs.size+1],_,_,W,?_,m.kept (t':=d.toks) D,As E F _ _ _ _ _ _ ?_,⟨⟨.none,?_⟩,⟨⟨_,_,f _ _ Q,.inl rfl⟩,f _ _ B,⟨_,_,f _ _ C⟩,Y.at λo e=>f _ _ e,Z.at λo e=>f _ _ e⟩⟩,λb T=>?_,q⟩
 ·rw[j]
 ·constructor<;>(intro z;have z':(_:Nat)=_:=z;omega)
 ·rw[<-j];exact S
 ·have n:d.heap.objs.size<=b:=by
   simp only[aai,aa4,or_false]at T;rcases T with rfl|rfl|rfl|rfl|rfl|rfl
   ·exact ab3 _ 5
   ·exact ab3 _ 4
   ·exact ab3 _ 2
   ·exact ab3 _ 3
   ·exact aaf _
   ·exact ab3 _ 1
  exact m.fpOk n (m.hok.fresh n)
def Eh{K:Zs}{a1 a2:Zl}{xs ys:List V}{g:TG}{f:TS}{D:Ends}{b:St}{H:Hp}(c:Nat->St->Hp->Prop)(B:c 0 b H)(j:∀i b H,i<=min xs.length ys.length->c i b H->gf K H a1 xs/\gf K H a2 ys)
 (C:∀i x y b H q p,xs[i]?=some x->ys[i]?=some y->c i b H->H q=none->upd H q (.tup [x,y]) p=none->g (.ref p) b (upd (upd H q (.tup [x,y])) p (.tup [.int i,.ref q])) λd l=>f {D with nx:=c (i+1),ct:=c (i+1),bk:=D.nx} d l)
 (hd:∀b H,c (min xs.length ys.length) b H->D.nx b H):FW (YC K a1 a2) g f D b H:=
 pK c B (λb H p=>let⟨q1,q2⟩:=j _ b H (aaf _) p;⟨⟨xs,ys,q1,q2,by omega⟩,hd b H p⟩) λi b H h p=>let⟨q1,q2⟩:=j i b H (aaX h) p;have z:i<xs.length:=(by omega);have A:i<ys.length:=(by omega)
  ⟨⟨xs,ys,xs[i],ys[i],q1,q2,by simp[z],by simp[A]⟩,λv _⟨q,a,m,n,o,r,e,s,w,y⟩=>by subst e y;exact C i m n b H q a (s xs q1) (w ys q2) p o r⟩
end L2
namespace L2
open PySem PySem.Spec PyProof.Rows PySem.W PyProof.V
def Dw(K:Zs)(a:Zl)(D:List (Str×PyData)):Prop:=KTD.tabLook KTD.flatLooks (λb=>K.lookup b) a D=true
noncomputable def Wg:PyData->V
 |.int i=>.int i
 |.str x=>.str x
 |.bool b=>.bl b
 |_=>.non
noncomputable def qe(D:List (Str×PyData))(k:Str):Option V:=(KTD.datumAt k D).map Wg
def Jy{h:ZN}:∀{d:PyData}{v:ZI},Flat v d->RelV (Wg d) v:=by
 intro d v x;cases x ⟨#[],h.life⟩
 all_goals first|exact⟨_,rfl⟩|rfl|exact absurd (aaq (by assumption)) (acn _)
noncomputable def T9(D:List (Str×PyData)):List (Str×KTD.Dat):=D.map λp=>(p.1,KTD.Dat.flat p.2)
theorem n_:∀{D:List (Str×PyData)},KTD.datumAt k (T9 D)=(KTD.datumAt k D).map KTD.Dat.flat
 |[]=>rfl
 | (x,d)::D=>by show(if _ then _ else KTD.datumAt k (T9 D))=_;rw[n_ (D:=D)];show _=(if _ then _ else KTD.datumAt k D).map _;split<;>rfl
def zu:KTD.inKeys k (T9 D)=(qe D k).isSome:=by rw[<-KTD.isSome_datumAt,n_];unfold qe;cases KTD.datumAt k D<;>rfl
def Dw.here(T:Dw X.K a D)(I:Inv X c d H s):KTD.Here s.heap s.heap a (T9 D):=⟨KTD.TabOf.text (KTD.tab_of_look (λ_ _ h=>KTD.flat_of_looks h) (λb o e=>I.kIn b o e) T),λ_ _ h=>h⟩
noncomputable def QB(K:Zs)(neg:Bool):R2:=λx y H Q=>∃k a D,x=.str k/\y=.ref a/\Dw K a D/\Q (.bl (if neg then !(qe D k).isSome else(qe D k).isSome)) H
def Iv:m_ X (compareOp .In) (QB X.K false):=by intro b s e H x y v u Q I c d h;obtain⟨k,a,D,rfl,rfl,T,q⟩:=h;obtain⟨t,rfl⟩:=c;cases(show u=Value.ref a from d);refine KTD.in_text (T.here I) ⟨.bl _,H,I.tok _,rfl,?_⟩;rw[zu];exact q
noncomputable def KR(K:Zs)(e ty:TE):TE:=λb H Q=>e b H λx c=>∃a D,x=.ref a/\Dw K a D/\ty b c λy d=>∃k,y=.str k/\Q ((qe D k).getD .non) d
def Es(J:PE X o q)(L:PE X e ty)(m:M1 X o "get" c e f):PE X (.Call (.Attribute o "get" c) [e] [] f) (KR X.K q ty):=by
 intro b s p H Q I h;refine wpAny_Call_method m.base m.few m.line PySem.F.plainAttrs_dict PySem.F.slot_dict_get PySem.F.type_dict_get (gH (J b s p H _ I h) λu r⟨x,w,j,z,a,D,A,T,q1⟩=>?_);subst A;obtain rfl:u=Value.ref a:=z;refine⟨(T.here j).typeIs,(T.here j).noDict,?_⟩;rw[m.trees];refine ach rfl (Calls.evalArgs_plain (acE (gH (L b r p w _ j q1) λM B⟨y,n,i,C,k,E,q2⟩=>acD ?_)));subst E;obtain⟨t,rfl⟩:=C;refine call_meetsIn PySem.F.slot_dict_get (T.here i).typeIs PySem.F.entry_dict_get (PySem.F.args_dict_get_2 _ _) (KTD.meets_get1 (h₀:=B.heap) (D:=T9 D)) ⟨T.here i,λd v g F=>?_,λl=>?_⟩
 ·rw[n_]at g;unfold qe at q2;cases hd:KTD.datumAt k D with
  |none=>rw[hd]at g;cases g
  | some G=>rw[hd]at g q2;cases g;exact⟨_,n,i.tok _,Jy (h:=s.heap) F,q2⟩
 ·rw[n_]at l;unfold qe at q2;cases hd:KTD.datumAt k D with
  |some G=>rw[hd]at l;cases l
  | none=>rw[hd]at q2;exact⟨.non,n,i.tok _,rfl,q2⟩
end L2
namespace L2
open PySem PySem.Spec PyProof.Rows PySem.SeqAt PySem.Builtin PySem.Builtin.Str
end L2
namespace L2
open PySem PySem.Spec PyProof.Rows PySem.SeqAt
open PySem.Builtin PySem.Builtin.Str
def xg{lo:Int}{n:Nat}{g:TG}{r:TT}{s:TE}{F:List V->Hp->Prop}{j:St}{v:Hp}(m:Nat->List V->St->Hp->Prop)(A:n<=sizeLine)(B:m 0 [] j v)
 (C:∀i ys c H,i<n->m i ys c H->∀N:List V->St->Hp->Prop,(∀d f q,m (i+1) d f q->d.length<=ys.length+1->N d f q)->g (.int (lo+i)) c H λa w=>r a w λb o=>if b=true then s a o λy z=>N (ys++[y]) a z else N ys a o)
 (hd:∀ys c H,ys.length<=n->m n ys c H->F ys H):CW (Rx lo n) g r s F j v:=
 vz m A B (λys c H l p=>⟨aaf _,hd ys c H l p⟩) λi ys c H h p=>⟨h,λx _⟨e,y⟩=>by subst e y;exact C i ys c _ h p⟩
end L2
namespace L2
open PySem PySem.Spec PyProof.Rows PySem.SeqAt
open PySem.Builtin PySem.Builtin.Str
end L2
namespace L2
open PySem PySem.Spec PyProof.Rows PySem.SeqAt PySem.Builtin
end L2
namespace L2
open PySem PySem.Spec PyProof.Rows PySem.SeqAt PySem.W Builtin.ObjectAttr
end L2
namespace L2
open PySem PySem.Spec PyProof.Rows PySem.SeqAt PySem.W
end L2
namespace L2
open PySem PySem.Spec PyProof.Rows
noncomputable def zE(J:It)(g:TG)(w:TT)(f:TI)(y:TG)(h:TT)(z:TE)(F:List V->Hp->Prop)(W:Nat->Nat->List V->St->Hp->Prop):Prop:=
 ∀i m ys l H,W i m ys l H->(J.stop i H/\F ys H)\/(J.go i H/\∀x n,J.yld i H x n->g x l n λa p=>w a p λb j=>if b=true then f a j λq r=>∃o:Nat->Nat->List V->St->Hp->Prop,(∃v,o 0 v ys a r)/\zY q y h z (λd e s=>∃c,c<m/\W (i+1) c d e s) o else∃c,c<m/\W (i+1) c ys a j)
noncomputable def QF(f:TI)(g:TG)(h:TT)(a:TI)(i:TG)(b:TT)(j:TE)(k:Nat)(l:List Nat):TE:=λc H Q=>f c H λJ e=>∃W:Nat->Nat->List V->St->Hp->Prop,(∃m,W 0 m [] (jU k l c) e)/\
 zE J g h a i b j (λys d=>ys.length<=sizeLine/\∀p,d p=none->Q (.ref p) (upd d p (.lst ys))) W
def zP(A:X.calm=true)(hg:∀e C c d r,PG (eV X scope N' e C c d r) tg g)(hc:∀e C c d r,pH (eV X scope N' e C c d r) ifs tt)
 (hi2:∀e C c d r,PI (eV X scope N' e C c d r) tg2 iter2 wi2)(hs2:∀env x,foldedSetIterable iter2 env x=pure x)(hg2:∀e C c d r,PG (eV X scope N' e C c d r) tg2 g2)(hc2':∀e C c d r,pH (eV X scope N' e C c d r) ifs2 tt2)(he:∀e C c d r,PE (eV X scope N' e C c d r) elt te)
 (T:Turn X.prog X.w X.K tg J fp it tn)(turn:zE J g tt wi2 g2 tt2 te F W):yG X scope N' fp tn it (.ListComp elt [⟨tg,iter,ifs,0⟩,⟨tg2,iter2,ifs2,0⟩] scope pos) W F e f j:=by
 intro C o R O ha hR s D H m I st fr w0;refine GZ (Y:=eV X scope N' e C f j fp) (α:=List V×List Value×Nat) (iter:=iter) (B:=λk=>do
  let x<-eval iter2 (compEnvC scope e C X.env)
  standAt iter2.pos
  let x<-foldedSetIterable iter2 (compEnvC scope e C X.env) x
  let _<-runOwn (.compStart (.ListComp elt [⟨tg,iter,ifs,0⟩,⟨tg2,iter2,ifs2,0⟩] scope pos) 1 (<-holding [x] (pyIter x)) (.ref o) (compEnvC scope e C X.env)) (compEnvC scope e C X.env)
  k) (λa=>[(o,iG a.2.1 a.2.2)]) ⟨λ_=>rfl,λ_ _=>rfl⟩ T (hg _ _ _ _ _) (hc _ _ _ _ _) A (λ_ _ z=>z) (λa b P H hn=>?_) (λi m a=>W i m a.1)
  (λi m a D H=>wi2 D H λJ2 H4=>∃W2:Nat->Nat->List V->St->Hp->Prop,(∃m2,W2 0 m2 a.1 D H4)/\zY J2 g2 tt2 te (λL l S=>∃M,M<m/\W (i+1) M L l S) W2)
  (λa=>Vals a.1 a.2.1) (λ_=>True) (λi m a D H rv w=>(turn i m a.1 D H w).imp (λz=>⟨z.1,λs I=>hR s D H _ _ _ I rv z.2⟩) λz=>⟨z.1,trivial,z.2⟩) (λi m a D H h s rv _ q ho I k Q E z=>?_) (a:=([],[],0)) I st fr .nil w0
 ·obtain⟨f0,f1,f2,f3,f4,f5⟩:=(O b P).1 H hn;refine⟨f0,f1,f2,f3,f4,λp U=>?_⟩;obtain rfl:p=(o,iG a.2.1 a.2.2):=by simpa using(show p∈([]:YN)++_ from U)
  exact aaI (O b P).2
 ·refine aaa (aaG (hi2 _ _ _ _ _ _ s D H _ I q) (λv s8 h8=>?_) (λ_ _ z=>z.elim));refine aaa (abl ?_);rw[hs2 _ v];refine aaa (aae (aaa (abg (aaG h8 (λae s9 h9=>?_) (λ_ _ z=>z.elim)))));obtain⟨ad,af,ag,J2,H9,e9,I9,T2,aa,f9,W2,⟨m2,w2⟩,N⟩:=h9;subst e9;have G:∀R':Result->Shared->Prop,(∀n,(∃M,M<m/\∃(Z:List V×List Value×Nat)(l:St)(S:Hp),Inv (eV X scope N' e C f j fp) ([(o,iG Z.2.1 Z.2.2)]++lH fp h) l S n/\Vals Z.1 Z.2.1/\W (i+1) M Z.1 l S)->R' (.ok .next) n)->
   codeAny (model X.prog X.w) X.A (.compLoop (.ListComp elt [⟨tg,iter,ifs,0⟩,⟨tg2,iter2,ifs2,0⟩] scope pos) 1 (.ref ad) (.ref o) (compEnvC scope e C X.env)) R' s9:=λR' hQ=>
   MJ (Y:=eV X scope N' e C f j fp) (ps:=lH fp h) W2 N T2 ⟨λ_=>rfl,λ_ _=>rfl⟩ (hg2 _ _ _ _ _) (hc2' _ _ _ _ _) (he _ _ _ _ _) A (λ_ _ z=>z)
    (λb P=>by obtain⟨_,a1,a2,a3,a4,a5⟩:=f9 b P;exact⟨λ_ hn=>⟨hn,a1,a2,a3,a4,λp U=>a5 p ((aak.mp U).elim (λy=>aaY _ y) λy=>aaE _ (aah _ y))⟩,aaI (a5 (o,iG a.2.1 a.2.2) (aaE _ aal))⟩)
    ⟨ha.1,ha.2.1,ha.2.2.1,ha.2.2.2.1,λp U=>(O _ (qd (show p∈lH fp h from U)).1).2⟩ (λs' l S L ab k' I' ac⟨M,hm,w'⟩=>hQ s' ⟨M,hm,(L,ab,k'),l,S,I',ac,w'⟩) rv I9 aa (λb P=>(f9 b P).1) w2;exact aaa (wpAny_runOwn (uD rfl rfl (G _ λn q=>z n q) (T2.self _ 0 _ _ _ aa (G _ λn q=>z n q))))
def yS(S:dX X r own js N')(e:X.calm=true)(m:PI X B v D)(n:∀c C a b d,PG (eV X r N' c C a b d) B g)(o:∀c C a b d,pH (eV X r N' c C a b d) z tt)
 (i:∀c C a b d,PI (eV X r N' c C a b d) w s wi2)(j:∀env x,foldedSetIterable s env x=pure x)(l:∀c C a b d,PG (eV X r N' c C a b d) w g2)(h:∀c C a b d,pH (eV X r N' c C a b d) y tt2)(p:∀c C a b d,PE (eV X r N' c C a b d) A te)(q:∀x,foldedSetIterable v X.env x=pure x:=by intro _;rfl):PE X (.ListComp A [⟨B,v,z,0⟩,⟨w,s,y,0⟩] r E) (QF D g tt wi2 g2 tt2 te own.length js):=
 yh (CT:=λ_ J F W=>zE J g tt wi2 g2 tt2 te F W) S m (λ_ _ T f=>zP e n o i j l h p T f) q
open PySem.SeqAt
section
open PySem.F
end
noncomputable def yd(v d:Zl):HO:=.ext λh=>h.IsItemsView v d
def H_(x:h.IsItemsView v d):iw P w H h v (yd v d):=by
 refine⟨x,?_,λa b z k=>?_⟩
 ·obtain⟨o,e,_⟩:=x;exact⟨o,e⟩
 ·obtain⟨o,e,r⟩:=z;exact⟨o,k _ e,r⟩
section
variable{K:Type}[DecidableEq K]
end
open PySem.W
end L2
namespace L2
open PySem PySem.Spec PyProof.Rows
open PySem.SeqAt PySem.W
end L2
namespace L2
open PySem PySem.Spec PyProof.Rows PySem.SeqAt
open PySem.W
def rJ:entryFor table "dict_itemiterator.__iter__"=some Builtin.«dict_keyiterator.__iter__»:=entryFor_alias (id':="dict_keyiterator.__iter__") (by kernel_rfl) rfl (by ext) (by kernel_rfl)
def Inv.freeze(I:Inv X r v H s)(e:H d=some (.dK a))(l:s.heap.get? d=some o):Inv X r v (upd H d (.frz o (.dK a))) s:=by
 have ne:∀{b u},H b=some u->u≠.dK a->b≠d:=λf n z=>by subst z;rw[e]at f;exact n (aaW f).symm
 have up:∀{b u},H b=some u->u≠.dK a->upd H d (.frz o (.dK a)) b=some u:=λf n=>by rw[c7 (ne f n)];exact f
 have h:∀b u,H b=some u->iw X.prog X.w (upd H d (.frz o (.dK a))) s.heap b u:=λb u f=>(I.hok b u f).stay (λ_ _ _ q=>q) (λc q=>up q nofun) (λc i q=>up q nofun);refine I.step (g':=s.gens) (t':=s.toks) (d':=s.drawn) (ch:=[]) (λb g=>nomatch g) (λb u _ _ _ q _=>q) (λb u _ _ _ q _=>⟨u.slots,q⟩) (λb u _ _ n=>?_) (λb u _ q=>⟨u,q⟩) (λb i q=>up q nofun) (λb u z q=>up q nofun) (λb p q=>⟨#[],by rw[up q nofun];simp⟩) (λm j=>j) (λb u q=>?_) I.bare
 ·rw[c7 (λz=>by subst z;rw[e]at n;cases n)];exact n
 ·by_cases g:b=d
  ·subst g;rw[a_]at q;cases q;exact⟨l,h _ _ e⟩
  ·rw[c7 g]at q;exact h _ _ q
def Inv.thaw(I:Inv X C D H s)(e:H d=some (.frz o (.dK a)))(B:∀o u,X.H₀ d≠some (.frz o u)):Inv X C D (upd H d (.dK a)) s:=by
 have ne:∀{b u},H b=some u->u≠.frz o (.dK a)->b≠d:=λf n z=>by subst z;rw[e]at f;exact n (aaW f).symm
 have up:∀{b u},H b=some u->u≠.frz o (.dK a)->upd H d (.dK a) b=some u:=λf n=>by rw[c7 (ne f n)];exact f
 have fr:∀{b},H b=none->upd H d (.dK a) b=none:=λ{b}n=>by rw[c7 (λz=>by subst z;rw[e]at n;cases n)];exact n
 have i:∀b u,iw X.prog X.w H s.heap b u->iw X.prog X.w (upd H d (.dK a)) s.heap b u:=λb u x=>x.stay (λ_ _ _ q=>q) (λc q=>up q nofun) (λc h q=>up q nofun);refine⟨I.ok,I.os,I.bare,⟨I.base.keep,I.base.slot,λb u q n x=>fr (I.base.free b u q n x),I.base.there,λb h q=>up (I.base.tups b h q) nofun,λb u z q=>?_,λb l q=>?_⟩,I.loc,I.cell,fr I.free,λx c q=>fr (I.freeC x c q),λp r=>?_,λb u q=>?_,I.len⟩
 ·rw[c7 (λy=>by subst y;exact B _ _ q)];exact I.base.frzs b u z q
 ·obtain⟨g,m⟩:=I.base.tbls b l q;exact⟨g,up m nofun⟩
 ·obtain⟨v,w,A⟩:=I.pin p r;exact⟨v,fr w,A⟩
 ·by_cases j:b=d
  ·subst j;rw[a_]at q;cases q;exact i _ _ (show iw X.prog X.w H s.heap b (.frz o (.dK a))from I.hok _ _ e).2
  ·rw[c7 j]at q;exact i _ _ (I.hok _ _ q)
noncomputable def Yk(t:TE):TE:=λc H Q=>∃d a,H d=some (.dK a)/\∀o,t c (upd H d (.frz o (.dK a))) λv b=>b d=some (.frz o (.dK a))/\Q v (upd b d (.dK a))
def yX(h:PE X e t):PE X e (Yk t):=by
 intro a s l H Q I q;obtain⟨d,i,b,q⟩:=q;obtain⟨_,_,_,_,o,p,r,j,_⟩:=xq I.hok b;have g:∀o u,X.H₀ d≠some (.frz o u):=λo u z=>by have:=I.base.frzs d o u z;rw[b]at this;cases this
 refine gH (h a s l _ _ (I.freeze b j) (q o)) λu m⟨v,n,c,r1,f,q1⟩=>⟨v,_,c.thaw f g,r1,q1⟩
def Uk(r:(iC P w).is k u=true):RelV (kV k) u:=by
 rcases ik (show sr k u=true from r)with⟨i,t,rfl,rfl⟩|⟨x,t,rfl,rfl⟩
 ·exact⟨t,rfl⟩
 ·exact⟨t,rfl⟩
theorem KV.at(r:KV a vs):∀{i:Nat}{x:Key×V},a[i]?=some x->∃u,vs[i]?=some (x.1,u)/\RelV x.2 u:=by
 induction r with
 |nil=>intro i x e;simp at e
 | cons h t b=>
   intro i x e;cases i with
   | zero=>simp at e;subst e;exact⟨_,by simp[h.1],h.2⟩
   |succ i=>exact(b (i:=i) (by simpa using e)).imp λu z=>⟨by simpa using z.1,z.2⟩
noncomputable def Wl(o:Obj):Nat:=match o.data with|.dict _ a=>a|_=>0
def mV(ok:oG P w H h)(e:H d=some (.frz o (.dK a))):∃vs,KV a vs/\h.DictAt (iC P w) d vs (Wl o)/\(d==sysModules)=false:=by obtain⟨c,_,f,vs,r,i,g,j,b,x,dd,z⟩:=(show iw P w H h d (.frz o (.dK a))from ok _ _ e);rw[c]at b;cases b;exact⟨vs,r,⟨o,g,c,x,by rw[dd];simp[Wl,dd],z⟩,f⟩
noncomputable def Itm(d:Zl)(o:Obj)(a:List (Key×V)):It:=
 ⟨λi H=>H d=some (.frz o (.dK a))/\i<a.length,λi H v b=>∃p x,H p=none/\v=.ref p/\a[i]?=some x/\b=upd H p (.tup [kV x.1,x.2]),λi H=>H d=some (.frz o (.dK a))/\a.length<=i⟩
set_option tactic.hygienic true in
def zB{P:ZE}{w:ZH}{K:Zs}{B:YU}{k1}{Y:Pos}(d c:Zl)(o:Obj)(a:List (Key×V)):Turn P w K (.Tuple B k1 Y) (Itm d o a) [c] c (λi h=>∃ok m,IsItemIter h c d i a.length (Wl o) ok m)where
 mem:=by simp
 obj:=λi h g b f=>by obtain⟨ok,m,e⟩:=g;cases aam.mp f;exact⟨_,e,λv z=>by cases(show Data.fields _=Data.cell v from z)⟩
 keep:=λi h D g k=>let⟨ok,m,e⟩:=g;⟨ok,m,k c (by simp) _ e⟩
 item:=by
  intro X S T U hc i j s σ H E I C g W;subst S T U;obtain⟨hd,hi⟩:=W;obtain⟨vs,r,n,_⟩:=mV I.hok hd;obtain⟨ok,m,e⟩:=g;have hx:a[i]?=some a[i]:=by simp[hi]
  obtain⟨u,hu,ru⟩:=KV.at r hx;rw[KV.length r]at e;refine wpAny_pyNext_items_item e n hu λG D hk Z p aa l=>?_;refine⟨_,rfl,?_⟩;obtain⟨M,N,f2,O,Q,R⟩:=C c (by simp);have x:c<s.heap.objs.size:=aaq e;have I1:Inv X j σ (upd H s.heap.objs.size (.tup [kV a[i].1,a[i].2])) {s with heap:=D,toks:=s.toks}:=by
   refine I.turnLaid (fp:=[c]) (λb o f z=>l b o (λq=>f (by simp[q])) z) (λb f=>?_) C (aaf _) ?_
   ·cases aam.mp f;exact⟨_,Z⟩
   ·exact⟨by show 2<=sizeLine;decide,[G,u],.cons (Uk hk) (.cons ru .nil),⟨_,p,rfl,_,rfl⟩⟩
  have y:∀b∈[c],(upd H s.heap.objs.size (.tup [kV a[i].1,a[i].2])) b=none:=λb f=>by cases aam.mp f;rw[c7 (aay x)];exact M
  refine wpAny_letOwnedTupleGo_items Z λg2 J L=>?_;refine⟨.ref s.heap.objs.size,_,I1.turned (t':=s.toks) (λb o f z=>(L.2 b f).trans z) (y c (by simp)) N O Q R,rfl,⟨s.heap.objs.size,a[i],I.hok.fresh (aaf _),rfl,hx,rfl⟩,⟨_,_,by rw[KV.length r];exact J⟩,y⟩
 done:=by intro X S T U hc i j s σ H E I C g W;subst S T U;obtain⟨hd,hi⟩:=W;obtain⟨vs,r,n,_⟩:=mV I.hok hd;obtain⟨ok,m,e⟩:=g;obtain⟨M,N,f2,O,Q,R⟩:=C c (by simp);rw[KV.length r]at e;refine wpAny_pyNext_items_end (I.ok.hd hc) e n (by have:=KV.length r;simp;omega) λD ex=>?_;exact⟨rfl,I.turned (t':=s.toks) (λb o f z=>ex b o f z) M N O Q R⟩
 self:=λ_ _ _ _ _ g h=>by obtain⟨ok,m,e⟩:=g;rename_i A _ s _ _;have ty:Shared.TypeIs s (.ref c) "dict_itemiterator":=⟨_,e,rfl⟩;refine wpAny_pyIter_slot ty F.slot_dict_itemiterator_iter (abc F.slot_dict_itemiterator_iter ty rJ ?_ (F.args_dict_itemiterator_iter_1 _));show wpAny _ _ (ret (.ref c)) _ _ s;exact aae ⟨_,rfl,"dict_itemiterator",_,ty,F.slot_dict_itemiterator_next.lookup,h⟩
def R1(e:TE):TI:=λc H R=>e c H λx b=>∃v d o a,x=.ref v/\b v=some (yd v d)/\b d=some (.frz o (.dK a))/\R (Itm d o a) b
def yO{f:YU}{k1}{pt:Pos}{e:ZT}{l:TE}(z:PE X e l):PI X (.Tuple f k1 pt) e (R1 l):=by intro c s y H R I h;refine gH (z c s y H _ I h) λu g⟨x,m,a,r1,v,d,o,i,n,p,hd,q⟩=>?_;subst n;cases(show u=Value.ref v from r1);obtain⟨vs,r,j,_⟩:=mV a.hok hd;refine wpAny_pyIter_items (a.hok v _ p).1 j ?_;refine⟨g.heap.objs.size,[g.heap.objs.size],_,_,m,rfl,a.kept (t':=g.toks) (λb u e=>aan _ e),zB d _ o i,⟨.none,.none,by rw[KV.length r];exact aaC _ rfl⟩,λb w=>?_,q⟩;cases aam.mp w;exact a.fpOk (aaf _) (a.hok.fresh (aaf _))
noncomputable def Lh:V->List V->Hp->VK->Prop:=λx vs H Q=>∃a o b,x=.ref a/\vs=[]/\H a=some (.frz o (.dK b))/\∀v,H v=none->Q (.ref v) (upd H v (yd v a))
def uG:Kf X "dict.items" Lh:=by
 intro f s n H x vs v p Q I l m h;obtain⟨a,o,g,rfl,rfl,i,q⟩:=h;cases(show v=Value.ref a from l);cases m;obtain⟨vs,_,c,j⟩:=mV I.hok i;have hd:=c.dictOf;exact call_meetsIn acP hd.typeIs PySem.F.entry_dict_items (PySem.F.args_dict_items_1 _) (meets_dict_items _ a j)
  ⟨⟨vs,hd⟩,.ref s.heap.objs.size,_,I.laid (t':=s.toks) (a:=s.heap.objs.size) (λb o e=>aan _ e) (aaf _) (H_ (d:=a) ⟨_,aaC _ rfl,rfl,rfl⟩),rfl,q _ (I.hok.fresh (aaf _))⟩
noncomputable def ou(v d:Zl):HO:=.ext λh=>h.IsValuesView v d
def Gh(x:h.IsValuesView v d):iw P w H h v (ou v d):=by
 refine⟨x,?_,λa b z k=>?_⟩
 ·obtain⟨o,e,_⟩:=x;exact⟨o,e⟩
 ·obtain⟨o,e,r⟩:=z;exact⟨o,k _ e,r⟩
noncomputable def K7:V->List V->Hp->VK->Prop:=λx vs H Q=>∃a o b,x=.ref a/\vs=[]/\H a=some (.frz o (.dK b))/\∀v,H v=none->Q (.ref v) (upd H v (ou v a))
def u_:Kf X "dict.values" K7:=by
 intro f s n H x vs v p Q I l m h;obtain⟨a,o,g,rfl,rfl,i,q⟩:=h;cases(show v=Value.ref a from l);cases m;obtain⟨vs,_,c,j⟩:=mV I.hok i;have hd:=c.dictOf;exact call_meetsIn acQ hd.typeIs PySem.F.entry_dict_values (PySem.F.args_dict_values_1 _) (meets_dict_values _ a j)
  ⟨⟨vs,hd⟩,.ref s.heap.objs.size,_,I.laid (t':=s.toks) (a:=s.heap.objs.size) (λb o e=>aan _ e) (aaf _) (Gh (d:=a) ⟨_,aaC _ rfl,rfl,rfl⟩),rfl,q _ (I.hok.fresh (aaf _))⟩
noncomputable def Wx(d:Zl)(o:Obj)(a:List (Key×V)):It:=
 ⟨λi H=>H d=some (.frz o (.dK a))/\i<a.length,λi H v b=>b=H/\∃x,a[i]?=some x/\v=x.2,λi H=>H d=some (.frz o (.dK a))/\a.length<=i⟩
def yR{P:ZE}{w:ZH}{K:Zs}{tg:ZT}(d j:Zl)(o:Obj)(c:List (Key×V)):Turn P w K tg (Wx d o c) [j] j (λi h=>h.IsValIter j d i c.length (Wl o))where
 mem:=by simp
 obj:=λi h a b f=>by obtain⟨o,e,_,z⟩:=a;cases aam.mp f;exact⟨_,e,λv y=>by rw[z]at y;cases y⟩
 keep:=λi h J a k=>a.at λo e=>k j (by simp) _ e
 item:=by
  intro X C D F N i m s Z H E I n a G;subst C D F;obtain⟨hd,M⟩:=G;obtain⟨vs,r,g,_⟩:=mV I.hok hd;have L:c[i]?=some c[i]:=by simp[M]
  obtain⟨u,R,S⟩:=KV.at r L;rw[KV.length r]at a;obtain⟨p,q,T,x,A,B⟩:=n j (by simp);refine wpAny_pyNext_values_item a g R λJ l O=>?_;refine⟨_,rfl,?_⟩;obtain⟨o',U,W,Y⟩:=id l;refine N6 U W Y (by ext) ?_;exact⟨c[i].2,H,I.turned (t':=s.toks) (λb o f z=>O.extBut b o f z) p q x A B,S,⟨rfl,_,L,rfl⟩,by rw[KV.length r];exact l,λb f=>(n b f).1⟩
 done:=by intro X C D F N i m s Z H E I n a G;subst C D F;obtain⟨hd,M⟩:=G;obtain⟨vs,r,g,_⟩:=mV I.hok hd;obtain⟨p,q,T,x,A,B⟩:=n j (by simp);rw[KV.length r]at a;refine wpAny_pyNext_values_end (I.ok.hd N) a g (by have:=KV.length r;simp;omega) λJ Q=>?_;exact⟨rfl,I.turned (t':=s.toks) (λb o f z=>Q b o f z) p q x A B⟩
 self:=λ_ _ _ _ _ a h=>wpAny_pyIter_valiter a h
def K4(e:TE):TI:=λc H R=>e c H λx b=>∃v d o a,x=.ref v/\b v=some (ou v d)/\b d=some (.frz o (.dK a))/\R (Wx d o a) b
def uJ{y e:ZT}{j:TE}(z:PE X e j):PI X y e (K4 j):=by intro c s w H R I h;refine gH (z c s w H _ I h) λu f⟨x,l,a,r1,v,d,o,g,m,n,hd,q⟩=>?_;subst m;cases(show u=Value.ref v from r1);obtain⟨vs,r,i,_⟩:=mV a.hok hd;refine wpAny_pyIter_values (a.hok v _ n).1 i ?_;refine⟨f.heap.objs.size,[f.heap.objs.size],_,_,l,rfl,a.kept (t':=f.toks) (λb u e=>aan _ e),yR d _ o g,⟨_,aaC _ rfl,rfl,by rw[KV.length r];rfl⟩,λb p=>?_,q⟩;cases aam.mp p;exact a.fpOk (aaf _) (a.hok.fresh (aaf _))
def yF(S:dX X scope own js N')(l:X.calm=true)(hi:PI X tg iter wi)(hg:∀d C a c j,PG (eV X scope N' d C a c j) tg g)(hc:∀d C a c j,pH (eV X scope N' d C a c j) ifs tt)
 (E:∀d C a c j,PE (eV X scope N' d C a c j) ke tk)(F:∀d C a c j,PE (eV X scope N' d C a c j) ve tv)(hs:∀x,foldedSetIterable iter X.env x=pure x:=by intro _;rfl):PE X (.DictComp ke ve [⟨tg,iter,ifs,0⟩] scope pos) (P0 wi g tt tk tv own.length js):=by
 intro f s G H Q I h;obtain⟨d,p,r,w⟩:=oX (env:=X.env) scope λy L hk=>I.ok.has y.1 (S.free y L hk);show wpAny _ X.A (comprehension (.DictComp ke ve [⟨tg,iter,ifs,0⟩] scope pos) scope X.env _ newDict false (eval iter X.env)) _ _ s;refine acO (use:=none) rfl hs p S.kind S.names (gH (hi f s G H _ I h) λv s1 M=>gH M λN s2 O=>?_);obtain⟨R,fp,tn,J,H2,e,U,T,z,W,Y⟩:=O;subst e;refine Dy (RR:=λi C=>compPost (model X.prog X.w) X.A X.xe none (EP X f G Q) i C) S l hg hc E F r w U T z W Y ?_;intro i C H' Z m IX hm A hL hz B D q;refine⟨m,hm,λh' n=>⟨.ref i,_,?_,rfl,q⟩⟩;exact IX.turned (t':=Z.toks) (it:=C) (λb o P e=>(n.2 b P).trans e) A hL (.inr hz) B D
def qt(h:Nat->St->Hp->Prop)(I:h 0 O P)(J:∀i a H,i<=M.length->h i a H->H d=some (.frz o (.dK M)))
 (L:∀i x a H p,M[i]?=some x->h i a H->H p=none->∀N:St->Hp->Prop,(∀b j,h (i+1) b j->N b j)->g (.ref p) a (upd H p (.tup [kV x.1,x.2])) λc w=>tk c w λy A=>v c A λz r=>∃n k,r f=some (.dK n)/\y=kV k/\n.length<sizeLine/\N c (upd r f (.dK (putK n k z))))
 (hd:∀a H,h M.length a H->F H):∃W:Nat->Nat->St->Hp->Prop,(∃m,W 0 m O P)/\Cq (Itm d o M) g qm tk v f F W:=by
 refine⟨λi m a H=>m=M.length-i/\i<=M.length/\h i a H,⟨M.length,by simp,aaJ _,I⟩,?_⟩;rintro i m a H⟨rfl,G,p⟩;have q:=J i a H G p;by_cases l:i<M.length
 ·refine .inr ⟨⟨q,l⟩,λx j y=>?_⟩;obtain⟨B,C,D,rfl,E,rfl⟩:=y;exact L i C a H B E p D (λb j=>∃s,s<M.length-i/\s=M.length-(i+1)/\i+1<=M.length/\h (i+1) b j) λb j q=>⟨M.length-(i+1),by omega,rfl,l,q⟩
 ·have e:i=M.length:=by omega
  subst e;exact .inl ⟨⟨q,aaf _⟩,hd a H p⟩
def xX(c:Nat->List V->St->Hp->Prop)(z:C.length<=sizeLine)(A:c 0 [] D E)(q:∀i ys a H,i<=C.length->c i ys a H->H d=some (.frz o (.dK C)))
 (B:∀i x ys a H,C[i]?=some x->ys.length=i->c i ys a H->∀N:List V->St->Hp->Prop,(∀b j m,b.length=i+1->c (i+1) b j m->N b j m)->g x.2 a H λf r=>n f r λy s=>N (ys++[y]) f s)
 (hd:∀ys a H,ys.length=C.length->c C.length ys a H->F ys H):CW (Wx d o C) g qm n F D E:=
 pY c z A (λys a H l p=>⟨⟨q _ ys a H (aaf _) p,aaf _⟩,hd ys a H l p⟩) λi ys a H h l p=>⟨⟨q i ys a H (aaX h) p,h⟩,λv _⟨e,x,w,y⟩=>by subst e y;exact B i x ys a _ w l p⟩
def zT{r:List (Key×V)}{g:TG}{f:TS}{D:Ends}(b:Nat->St->Hp->Prop)(n:b 0 s w)(j:∀i a H,i<=r.length->b i a H->H d=some (.frz o (.dK r)))
 (q:∀i x a H,r[i]?=some x->b i a H->g x.2 a H λc l=>f {D with nx:=b (i+1),ct:=b (i+1),bk:=D.nx} c l)
 (hd:∀a H,b r.length a H->D.nx a H):FW (Wx d o r) g f D s w:=
 pK b n (λa H p=>⟨⟨j _ a H (aaf _) p,aaf _⟩,hd a H p⟩) λi a H h p=>⟨⟨j i a H (aaX h) p,h⟩,λv _⟨e,x,m,y⟩=>by subst e y;exact q i x a _ m p⟩
def My:bootBuiltins "dict"=some (.type "dict"):=by ext
def xF:jX X (.type "dict") (λc H Q=>∃a b,c=[.ref a]/\H a=some (.dK b)/\∀p,H p=none->Q (.ref p) (upd H p (.dK b))):=by intro d s l H c m Q I r h;obtain⟨a,b,rfl,g,q⟩:=h;obtain⟨u,rfl,i⟩:=vals1 r;cases(show u=Value.ref a from i);exact Fv I (.inl g) λp j e f=>⟨.ref p,_,f,rfl,q p e⟩
noncomputable def X4(r:V->List V->Hp->VK->Prop)(e:TE):TE:=λd H Q=>e d H λx c=>(∃a o b,x=.ref a/\c a=some (.frz o (.dK b)))/\r x [] c Q
def wg{X:Cx}{o:ZT}{M:TE}{F:Str}{G J:Pos}{L:String}{r:V->List V->Hp->VK->Prop}(f:Slot "dict" F L)(g:typeOf (.builtin L)=pure (.type "method_descriptor"))(B:Kf X L r)(C:PE X o M)
 (d:attributeBase o F X.env (eval o X.env)=eval o X.env:=by rfl)(e:(G.endLine==J.line)=true:=by rfl):PE X (.Call (.Attribute o F G) [] [] J) (X4 r M):=by
 intro c s n H Q I h;refine wpAny_Call_method0_late d e (gH (C c s n H _ I h) λv p⟨x,q,i,r1,⟨a,D,w,y,A⟩,q1⟩=>?_);subst y;cases(show v=Value.ref a from r1);obtain⟨vs,_,⟨j,E,l,m,_⟩,_⟩:=mV i.hok A;exact⟨"dict",L,PySem.F.plainAttrs_dict,f,g,⟨j,l,m.1⟩,λb z=>by cases z;exact⟨j,l,m.2.1⟩,ach rfl (PySem.evalArgs_none (B c p n q (.ref a) [] _ [] Q i rfl .nil q1))⟩
noncomputable def WN(d:Zl)(o:Obj)(a:List (Key×V))(Q:St->Hp->Prop):St->Hp->Prop:=λb H=>H d=some (.frz o (.dK a))/\Q b (upd H d (.dK a))
noncomputable def XX(t:TS):TS:=λD c H=>∃d a,H d=some (.dK a)/\∀o,t ⟨WN d o a D.nx,λv b=>b d=some (.frz o (.dK a))/\D.rt v (upd b d (.dK a)),WN d o a D.bk,WN d o a D.ct⟩ c (upd H d (.frz o (.dK a)))
theorem QK{X:Cx}{n:Stmt}{t:TS}(h:PS X n t):PS X n (XX t):=by
 intro g s x H D I q;obtain⟨d,p,l,q⟩:=q;obtain⟨_,_,_,_,o,A,B,w,_⟩:=xq I.hok l;have j:∀o u,X.H₀ d≠some (.frz o u):=λo u z=>by have:=I.base.frzs d o u z;rw[l]at this;cases this
 refine gH (h g s x _ _ (I.freeze l w) (q o)) λf y i=>?_;cases f with
 |next=>obtain⟨a,m,b,c,e⟩:=i;exact⟨a,_,b.thaw c j,e⟩
 |brk=>obtain⟨a,m,b,c,e⟩:=i;exact⟨a,_,b.thaw c j,e⟩
 |cont=>obtain⟨a,m,b,c,e⟩:=i;exact⟨a,_,b.thaw c j,e⟩
 |ret u=>obtain⟨v,a,m,b,r,c,e⟩:=i;exact⟨v,a,_,b.thaw c j,r,e⟩
end L2
namespace L2
open PySem PySem.Spec PyProof.Rows PySem.W PyProof.V
noncomputable def oZ(a:Zl)(v:ZI):Bool:=match v with|.ref b=>a==b|_=>false
def vV(h:oZ a v=true):v=.ref a:=by
 unfold oZ at h;split at h
 ·rw[abb.mp h]
 ·cases h
def KQ(K:Zs)(a:Zl)(D:YR):Prop:=KTD.tabLook oZ (λb=>K.lookup b) a D=true
section
variable{X:Cx}{eH:YN}{σ:St}{H:Hp}{s:Zp}{a:Zl}{D:YR}
def KQ.of(T:KQ X.K a D)(I:Inv X eH σ H s):KTD.TabOf (λ(d:Zl)v=>v=.ref d) s.heap a D:=KTD.tab_of_look (λ_ _ h=>vV h) (λb o e=>I.kIn b o e) T
theorem x_(T:KTD.TabOf (λ(d:Zl)v=>v=.ref d) s.heap a D)(e:KTD.datumAt k D=some f)(q:Q (some (.ref f)) {s with toks:=s.toks+1}):
 wpAny (model g w) A (dictGet a (.str k tk)) Q E s:=by
 obtain⟨_,o,b,r,j,x,hd,m⟩:=T;unfold dictGet
 try with_reducible refine abg ?_
 refine aaa (wpAny_pyHash_str (aaa (KTD.kt_dictFind_strs (s:={s with toks:=s.toks+1}) j hd (by obtain⟨l⟩:=b;simpa using m.exact) ?_)));have c:Q (findBy (λk v=>v.isStr k) b k) {s with toks:=s.toks+1}:=by
  have n:findBy (λk v=>v.isStr k) b k=(b.toList.find? λe=>e.key.isStr k).map (·.val):=by obtain⟨l⟩:=b;simp[findBy]
  rw[n];obtain⟨v,p,h⟩:=m.find_some e;rw[p,h];exact q
 rw[findBy_of_findIdx?]at c;cases hi:b.findIdx? λe=>e.key.isStr k with
 |none=>rw[hi]at c;exact aae c
 |some i=>rw[hi]at c;exact aaa (wpAny_dictEntries (s:={s with toks:=s.toks+1}) j hd (aae c))
noncomputable def Ml(K:Zs):R2:=λx y H Q=>∃a k D f,x=.ref a/\y=.str k/\KQ K a D/\KTD.datumAt k D=some f/\Q (.ref f) H
def Ku:Jq X (Ml X.K):=by
 intro c d i s A H x y v u Q I m n h p;obtain⟨a,k,D,f,rfl,rfl,T,e,q⟩:=h;cases(show v=Value.ref a from m);obtain⟨t,rfl⟩:=n;have g:=T.of I;have b:s.TypeIs (.ref a) "dict":=by obtain⟨_,o,r,w,j,l,hd,z⟩:=g;exact⟨o,j,l.1⟩
 refine tail_any b slot_dict_getitem.lookup ?_ p;unfold getItem
 try with_reducible refine abg ?_
 refine aaa (acJ b (by decide) ?_);refine aaa (wpAny_callSpecial?_slot (name:=Str.ofString "__getitem__") b slot_dict_getitem (abc slot_dict_getitem b entry_dict_getitem ?_ (args_dict_getitem _ _)));show wpAny _ _ (dictGet a (.str k t)>>=_) _ _ s;exact aaa (x_ g e (aae ⟨_,rfl,aae ⟨.ref f,H,I.tok _,rfl,q⟩⟩))
structure Callee(X:Cx)(f:Zl)(sp:Sp)(E:XK):Prop where
 ex:∃CX k fd ps,dm X.prog X.w X.K X.mg X.base CX k f fd ps sp/\eZ k X.A/\Binds X.K fd ps []/\jt CX X E
 kp:keepIn X.K (.ref f)=true
def Qj(X:Cx)(j:Nat)(t:TA):TE:=λb H Q=>∃f c E,b[j]?=some (some (.ref f))/\Callee X f c E/\t b H λvs d=>c vs d Q E
def Hq(R:X.N[j]?=some x)(S:Rv X.env.scope x)(T:PA X (e::n) t)(hd:(x==("__debug__":Str))=false:=by decide)(w:(x==("__classdict__":Str))=false:=by decide)
 (U:starEach (e::n) X.env=(false,eval e X.env)::starEach n X.env:=by rfl)(y:(backTo g (starEach n X.env)).any (·.1)=false:=by rfl):PE X (.Call (.Name x p) (e::n) [] g) (Qj X j t):=by
 intro i s O H Q I h;obtain⟨f,sp,E,B,C,h⟩:=h;obtain⟨CX,k,fd,ps,F,G,J,L⟩:=C.ex;refine abn ?_;have d:∀o:Value->Shared->Prop,o (.ref f) s->wpAny (model X.prog X.w) X.A (eval (.Name x p) X.env) o X.xe s:=λo v=>by
  obtain⟨m,M,N⟩:=I.loc;obtain⟨u,r,l⟩:=N j x (.ref f) R B S;cases(show u=Value.ref f from r);rcases l with⟨hk,P⟩|⟨hk,c,A,b⟩
  ·exact abD (acx I.ok.kind hk M P v) hd
  ·rcases hk with hk|hk
   ·exact abD (acy I.ok.kind hk A b v) hd
   ·exact abD (wpAny_loadName_free I.ok.kind hk A b v w) hd
 refine d _ ?_;refine callWith_K (h₀:=X.base) I.ok.mod.kin C.kp (gH (T g i s O H _ I h) λW Y⟨vs,Z,z,r,q⟩=>⟨z.kIn,?_⟩) U y;exact wz F G J .nil L z r (by rw[aaQ];exact q)
end
end L2
namespace L2
open PySem PySem.Spec PyProof.Rows PySem.SeqAt
noncomputable def PQ(C:Zl)(m:Str)(l:Sp)(n:List V->List V->List V)(E:XK)(p:TE)(t tk:TA):TE:=λb H Q=>p b H λx c=>∃a j fs,x=.ref a/\c a=some (.ins C j fs)/\fs.lookup m=none/\t b c λvs d=>tk b d λh i=>l (n (.ref a::vs) h) i Q E
def Gd(W:PE X o ta)(c:vh X.K C)(G:Meth X.K C m f)(F:dm X.prog X.w X.K X.mg X.base CX k f fd ps sp)(Y:eZ k X.A)(Z:k_ X.K fd ps ks g gV)(hx:jt CX X E)
 (ha:PA X (e::es) t)(v:PK X kws tk)(i:(backToKw pos (keywordEach kws X.env)).all (·.1.isSome)=true:=by rfl)(w:(backToKw pos (keywordEach kws X.env)).filterMap (·.1)=ks:=by rfl)
 (y:starEach (e::es) X.env=(false,eval e X.env)::starEach es X.env:=by rfl)
 (z:((backTo pos (starEach (e::es) X.env)).any (·.1)||(backToKw pos (keywordEach kws X.env)).any (·.1.isNone))=false:=by rfl)
 (ht:eval (.Call (.Attribute o m apos) (e::es) kws pos) X.env=(do
  let D<-eval o X.env
  standAt apos.atName
  let(f,b)<-holding [D] (getMethod D m p)
  callWith pos f b (backTo pos (starEach (e::es) X.env)) (backToKw pos (keywordEach kws X.env))):=by rfl):
 PE X (.Call (.Attribute o m apos) (e::es) kws pos) (PQ C m sp gV E ta t tk):=by
 intro d s n H Q I h;refine acf (pl:=p) (gH (W d s n H _ I h) λu J⟨x,L,j,M,a,dx,fs,N,O,l,q⟩=>?_) ht;subst N;obtain rfl:u=Value.ref a:=M;refine mK j O c G l ?_;refine PySem.W.callWith_KW (first:=[.ref a]) (h₀:=X.base) j.ok.mod.kin G.kp i (gH (ha pos d J n L _ j q) λA P⟨vs,R,S,r,q2⟩=>?_) z y;refine gH (v pos d P n R _ S q2) λws s3⟨zs,H3,B,T,U⟩=>⟨B.kIn,?_⟩;rw[w];exact KD (us:=.ref a::A) (vs:=.ref a::vs) F Y Z hx B (.cons rfl r) T U
end L2
namespace L2
open PySem
def jj(i:Nat)(d:X.N.Nodup)(f:PE X e c)(g:X.N[i]?=some x:=by rfl)(h:Loc X.env.scope x:=by first|exact .inl rfl|exact .inr rfl)(j:swapsWith e (some (.Name x a)) b.line X.env=pure false:=by rfl)(l:X.fn x=true\/X.env.scope.names.lookup x=some .local:=by first|exact .inl rfl|exact .inr rfl|assumption):PS X (.Assign [.Name x a] e b) (Jj c (eN i)):=QM d g h f j l
def jP(i:Nat)(b:X.N.Nodup)(c:X.N[i]?=some x:=by rfl)(d:Loc X.env.scope x:=by first|exact .inl rfl|exact .inr rfl)(e:X.fn x=true\/X.env.scope.names.lookup x=some .local:=by first|exact .inl rfl|exact .inr rfl|assumption):PG X (.Name x a) (eN i):=fZ b c d e
def iJ(D:gq X.K X.mg x j h f g)(F:dm X.prog X.w X.K X.mg X.base dU k f g h i)(l:eZ k X.A)(m:PA X (e::a) t)(n:Gl X x:=by rfl)(c:(x==("__debug__":Str))=false:=by decide)(o:starEach (e::a) X.env=(false,eval e X.env)::starEach a X.env:=by rfl)(d:(backTo b (starEach a X.env)).any (·.1)=false:=by rfl):PE X (.Call (.Name x p) (e::a) [] b) (Fo i [] E0 t):=pG F l n D.mg D.F.kp D.b .nil dR m c o d
end L2
namespace Cm
open PySem L2
def p8(h:∀N:St->Hp->Prop,(∀a b,u D a b->N a b)->t {D with nx:=N} c H):Lg t u D c H:=h _ λ_ _ x=>x
def kh(h:∀b:Ends,(∀a c,u D a c->b.nx a c)->t b d H):Lg t u D d H:=h _ λ_ _ x=>x
def xx{t:TS}{D:Ends}(h:∀b:Ends,(∀a c,D.nx a c->b.nx a c)->t b d H):t D d H:=h D λ_ _ x=>x
noncomputable def top(i:Nat):Stmt:=PySem.Challenge.pw_lanescribe_k42_whole_tests_let_events_by.main.body.getD i (.Pass ⟨0,0,0,0⟩)
noncomputable def BK(c:Zl)(a r s:Int):List (Key×V):=[(.inr "cells",.ref c),(.inr "at",.int a),(.inr "rest",.int r),(.inr "seed",.int s)]
def pat:putK (BK c a r s) (.inr "at") (.int x)=BK c x r s:=by rfl
def NT:putK (BK c a r s) (.inr "rest") (.int x)=BK c a x s:=by rfl
def N_:putK (BK c a r s) (.inr "seed") (.int x)=BK c a r x:=by rfl
def Gi(h:H p=some (.dK (BK c a r s))):j8 H p (.str "cells") (some (.ref c)):=j8.k (k:=Sum.inr "cells") h
def Yh(h:H p=some (.dK (BK c a r s))):j8 H p (.str "at") (some (.int a)):=j8.k (k:=Sum.inr "at") h
def Bv(h:H p=some (.dK (BK c a r s))):j8 H p (.str "rest") (some (.int r)):=j8.k (k:=Sum.inr "rest") h
def yP(h:H p=some (.dK (BK c a r s))):j8 H p (.str "seed") (some (.int s)):=j8.k (k:=Sum.inr "seed") h
abbrev RB:Int:=2305843009213693951
structure Dr(H:Hp)(p c:Zl):Prop where
 ex:∃(ns:List Int)(a r s:Int),H p=some (.dK (BK c a r s))/\H c=some (.lst (ns.map V.int))/\ns.length<=63/\0<=a/\a<=ns.length/\0<=r/\0<=s/\s<RB
def Dr.mono(d:Dr H p c)(h:di H b):Dr b p c:=by obtain⟨e,a,r,s,f,g,k⟩:=d.ex;exact⟨e,a,r,s,h _ _ f,h _ _ g,k⟩
def Dr.ne(d:Dr H p c)(h:H q=some o)(hd:∀b,o≠.dK b):q≠p:=by obtain⟨f,a,r,s,e,_⟩:=d.ex;exact j9 h e (hd _)
def Dr.put(d:Dr H p c)(g:q≠p)(h:q≠c):Dr (upd H q o) p c:=by obtain⟨b,a,r,s,e,f,k⟩:=d.ex;exact⟨b,a,r,s,by rw[c7 g.symm];exact e,by rw[c7 h.symm];exact f,k⟩
def Dr.cell(d:Dr H p c):∃b,H c=some (.lst b):=by obtain⟨f,a,r,s,g,e,k⟩:=d.ex;exact⟨_,e⟩
def Dr.neN(d:Dr H p c)(h:H q=none):p≠q:=by obtain⟨e,a,r,s,b,_⟩:=d.ex;exact dg b h
structure Txt(K:Zs)(mg:Y1):Prop where
 len:mg "len"=none
 range:mg "range"=none
 list:mg "list"=none
 tuple:mg "tuple"=none
 str:mg "str"=none
 bool:mg "bool"=none
 int:mg "int"=none
 min:mg "min"=none
 repr:mg "repr"=none
 all:mg "all"=none
 any:mg "any"=none
 isinstance:mg "isinstance"=none
section
variable{P:ZE}{w:ZH}{K:Zs}{mg:Y1}{base:ZN}
inductive vZ(K:Zs)(vs:List V)(H:Hp)(Q:VK)(E:XK):Prop
 |mk (a:Zl) (ns:List Int):vs=[.ref a]->fj K H a (ns.map V.int)->ns.length<=63->(∀(p c:Zl)(H':Hp),Dr H' p c->di H H'->H p=none->Q (.ref p) H')->vZ K vs H Q E
def Wh:du ["_law_script","_law_seed","_law_cell"] ["_law_script"] (b_ (top 112)):=by ext
def J7(F:ir K "_law_begin" "_law_begin" (top 112) f O)(T:Txt K mg):dm P w K mg base dU 1 f O ["_law_script"] (vZ K):=by
 refine F.ok Wh (by ext) λR A C s H vs Q E X h=>?_;obtain⟨a,d,rfl,I,m,k⟩:=h;refine⟨_,(bK (jj 1 Wh.nd dh) (bK (j6 aaO rfl (h_ (lA By (pv 0) mR (mU dh))) (jP 2 Wh.nd) (d8 (jj 1 Wh.nd (fX lX (fX iI (fX iI (fX oU (pv 1) dh) (fX oU (pv 2) dh)) dh) dh)))) (d8 (dw (qR (jD dC (jJ vX (by rfl) T.list vY (aK (lA By (pv 0) mR (mU dh)) cZ)) (jD dC dh (jD dC dh (jD dC (pv 1) qN)))) rfl rfl (ab4 _ _) (by show 4<=15;decide)))))),?_⟩;have c:nT (d.map V.int) none (some 63)=d.map V.int:=by show((d.map V.int).drop (HT.jB _ 0 none)).take (HT.jB _ _ (some ((63:Nat):Int))-HT.jB _ 0 none)=_;rw[HT.Ig,HT.JL,List.drop_zero,Nat.sub_zero,abd];rw[aad];omega
 refine⟨_,rfl,_,rfl,a,_,rfl,I,λq r=>⟨q,rfl,⟨_,fj.of a_⟩,?_⟩⟩;rw[c];have S:∀o,fj K (upd H q o) a (d.map V.int):=λo=>(show di H (upd H q o)fromλb u e=>by rw[c7 (dg e r)];exact e).seq I;refine iW (xs:=d.map V.int) (λi x B=>∃(z:Int)(v:Option V),x=[some (.ref a),some (.int z),v]/\0<=z/\z<RB/\B=upd H q (.lst (d.map V.int)))
  ⟨20011,none,rfl,by decide,by decide,rfl⟩ (λi x B _⟨_,_,_,_,_,e⟩=>by rw[e];exact fj.of a_) ?_ ?_
 ·rintro i y x B W⟨z,v,rfl,N,J,rfl⟩;obtain⟨n,-,rfl⟩:=aap.mp (aaj W);refine⟨_,rfl,_,_,rfl,rfl,.inl ⟨by omega,by simp only[RB]at J;omega⟩,_,rfl,_,_,rfl,rfl,.inr ⟨by decide,by decide⟩,_,_,rfl,rfl,_,_,rfl,rfl,_,_,rfl,rfl,(by show(0:Int)<2305843009213693951;decide),?_⟩;exact⟨_,_,rfl,abL _ (by decide),abM _ (by decide),rfl⟩
 ·rintro x B⟨z,v,rfl,N,J,rfl⟩;intro p L;have M:di H (upd (upd H q (.lst (d.map V.int))) p (.dK [])):=(di.new r).trans (di.new L);refine⟨_,rfl,_,rfl,a,_,rfl,M.seq I,λq2 g=>⟨q2,_,rfl,.inl (fj.of a_),λl j=>⟨_,rfl,?_,BK l 0 0 z,rfl,by show 4<=15;decide,?_⟩⟩⟩
  ·exact(di.new j) _ _ ((di.new g) _ _ a_)
  ·rw[c];have D:(upd (upd (upd (upd H q (.lst (d.map V.int))) p (.dK [])) q2 (.lst (d.map V.int))) l (.lst (d.map V.int))) p=some (.dK []):=(di.new (by rw[c]at j;exact j)) _ _ ((di.new g) _ _ a_);have G:l≠p:=j9 a_ D (by intro z;cases z);refine k p l _ ⟨d,0,0,z,a_,by rw[c7 G];exact a_,m,by decide,by omega,by decide,N,J⟩ ?_ ((di.new r).free L);intro b u e;have U:=((di.new (q:=l) (o:=.lst (d.map V.int)) (by rw[c]at j;exact j)) _ _ ((di.new g) _ _ (M b u e)));rw[c7 (dg ((di.new r) b u e) L)];exact U
inductive jK(vs:List V)(H:Hp)(Q:VK)(E:XK):Prop
 |mk (p c:Zl) (m:Int):vs=[.ref p,.int m]->Dr H p c->0<m->m<340282366920938463463374607431768211456->(∀(r:Int)(H':Hp),0<=r->r<m->Dr H' p c->ii p H H'->Q (.int r) H')->jK vs H Q E
def Wn:du ["_law_d","_law_many","_law_cell","_law_digit","_law_one"] ["_law_d","_law_many"] (b_ (top 113)):=by ext
def jH(F:ir K "_law_pick" "_law_pick" (top 113) f fd)(T:Txt K mg):dm P w K mg base dU 1 f fd ["_law_d","_law_many"] jK:=by
 refine F.ok Wn (by ext) λab A S s H vs Q E hr h=>?_;obtain⟨p,c,m,rfl,D,L,m1,k⟩:=h;have g:=pO hr;refine⟨_,(bK (eX (PW.pt (oK (dM gG (fQ g (pv 0) dC) dh (dN _)) (mQ (dM uz (fQ g (pv 0) dC) (dD dO (by rfl) T.len gD (aK (fQ g (pv 0) dC) cZ)) (dN _))))) (bK (jj 2 Wn.nd (dZ g_ (fQ g (pv 0) dC) (fQ g (pv 0) dC))) (bK (jo g (pv 0) dC (fX iI (fQ g (pv 0) dC) dh) rfl) (d8 (eX (dM Bg (pv 2) (fX Oa dh dh) (dN _)) (d8 (jo g (pv 0) dC (pv 2) rfl)) (d8 (jo g (pv 0) dC (fX lX (fX iI (fX iI (fX oU (fQ g (pv 0) dC) dh) (fX oU (pv 2) dh)) dh) dh) rfl)))))) dI) (bK (eX (dM yI (fQ g (pv 0) dC) dh (dN _)) (bK (jj 3 Wn.nd (fX lX (fQ g (pv 0) dC) (pv 1))) (bK (jo g (pv 0) dC (fX HY (fQ g (pv 0) dC) (pv 1)) rfl) (d8 (dw (pv 3))))) dI) (bK (jj 4 Wn.nd (fX lX (fX oU (fQ g (pv 0) dC) (fQ g (pv 0) dC)) dh)) (bK (jo g (pv 0) dC (fX lX (fX iI (fX iI (fX oU (pv 4) dh) (fX oU (fQ g (pv 0) dC) dh)) dh) dh) rfl) (d8 (dw (fX lX (fX Cg (fQ g (pv 0) dC) dh) (pv 1)))))))),?_⟩;obtain⟨l,a,r,sd,i,O,hl,a0,a1,W,X,Y⟩:=D.ex;have I:c≠p:=j9 O i (by intro z;cases z);have d:∀{x y z:Int},(BK c x y z).length<sizeLine:=λ{x y z}=>nW (by show 4<=1000;decide);refine rB (λq H'=>∃(n G b:Int)(v:Option V),q=[some (.ref p),some (.int m),v,none,none]/\H' p=some (.dK (BK c n G b))/\ii p H H'/\0<=n/\n<=l.length/\0<=G/\0<=b/\b<RB) ?_ ?_
 ·rintro q H1⟨n,G,b,v,rfl,j,bt,b0,b1,c0,d0,d1⟩;have J:∀o,(upd H1 p o) c=some (.lst (l.map V.int)):=λo=>by rw[c7 I];exact bt c _ O I
  refine⟨_,rfl,p,_,rfl,Bv j,_,_,rfl,rfl,_,rfl,?_⟩;refine jT (λaa=>?_) (λ_=>?_)
  ·refine⟨_,rfl,p,_,rfl,Bv j,_,rfl,_,_,rfl,rfl,L,?_⟩;refine⟨_,rfl,p,_,rfl,Bv j,_,rfl,_,_,rfl,rfl,⟨L,m1⟩,_,rfl,p,_,rfl,o8.k (k:=Sum.inr "rest") j d,_,rfl,?_⟩;rw[NT];exact k _ _ (abL _ (by omega)) (abM _ L) ⟨l,n,G/m,b,a_,J _,hl,b0,b1,Int.ediv_nonneg c0 (by omega),d0,d1⟩ (bt.trans ii.upd)
  ·have sq:Kl b b:=.inl ⟨by omega,by simp only[RB]at d1;omega⟩;refine⟨_,rfl,p,_,rfl,yP j,_,rfl,p,_,rfl,yP j,_,_,rfl,rfl,sq,_,_,rfl,rfl,(by show(0:Int)<2305843009213693951;decide),?_⟩;have u0:=abL (b*b) (show(2305843009213693951:Int)≠0 by decide);have u1:=abM (b*b) (show(0:Int)<2305843009213693951 by decide);refine⟨_,rfl,_,_,rfl,rfl,.inr ⟨by decide,by decide⟩,_,rfl,p,_,rfl,yP j,_,_,rfl,rfl,.inr ⟨by decide,by decide⟩,_,_,rfl,rfl,_,_,rfl,rfl,_,_,rfl,rfl,(by show(0:Int)<2305843009213693951;decide),_,rfl,p,_,rfl,o8.k (k:=Sum.inr "seed") j d,?_⟩;rw[N_];generalize M:(b*b % 2305843009213693951*7+b*40503+12345) % 2305843009213693951=sn;have v0:0<=sn:=M▸abL _ (by decide);have v1:sn<RB:=M▸abM _ (by decide);refine⟨_,rfl,p,_,rfl,yP a_,_,_,rfl,rfl,⟨by decide,by decide⟩,_,rfl,_,_,rfl,rfl,L,?_⟩;exact k _ _ (abL _ (by omega)) (abM _ L) ⟨l,n,G,sn,a_,J _,hl,b0,b1,c0,v0,v1⟩ (bt.trans ii.upd)
 ·intro N R;refine⟨_,rfl,p,_,rfl,Bv i,rfl,_,rfl,?_⟩;refine jT (λhz=>?_) (λ_=>?_)
  ·refine⟨_,rfl,p,_,rfl,Yh i,_,rfl,p,_,rfl,Gi i,c,_,rfl,.inl (fj.of O),_,_,rfl,rfl,_,rfl,?_⟩;rw[aad];refine jT (λB=>?_) (λ_=>?_)
   ·have B:a<l.length:=acj B;obtain⟨z,Z⟩:∃z,l[a.toNat]?=some z:=⟨_,aaz (by omega)⟩;have U:qF (l.map V.int) a=some (.int z):=by
     have e:(a:Int)=((a.toNat:Nat):Int):=by omega
     rw[e];refine dz ?_;rw[aao,Z];rfl
    refine⟨_,rfl,p,_,rfl,Gi i,_,rfl,p,_,rfl,Yh i,c,_,_,_,rfl,rfl,fj.of O,U,?_⟩;refine⟨_,rfl,p,_,rfl,Yh i,_,_,rfl,rfl,_,rfl,p,_,rfl,o8.k (k:=Sum.inr "at") i d,?_⟩;rw[pat];refine⟨_,rfl,_,_,rfl,rfl,⟨by decide,by decide,by decide⟩,_,_,rfl,rfl,_,rfl,?_⟩;refine jT (λC=>?_) (λ_=>?_)
    ·refine⟨_,rfl,_,rfl,p,_,rfl,o8.k (k:=Sum.inr "rest") a_ d,?_⟩;rw[NT];have C:(10:Int) ^ 18<=z:=acj C;exact R _ _ ⟨a+1,z,sd,_,rfl,a_,ii.upd.trans ii.upd,by omega,by omega,by omega,X,Y⟩
    ·refine⟨_,rfl,p,_,rfl,yP a_,_,_,rfl,rfl,.inr ⟨by decide,by decide⟩,_,rfl,_,_,rfl,rfl,.inr ⟨by decide,by decide⟩,_,_,rfl,rfl,_,_,rfl,rfl,_,_,rfl,rfl,(by show(0:Int)<2305843009213693951;decide),_,rfl,p,_,rfl,o8.k (k:=Sum.inr "seed") a_ d,?_⟩;rw[N_];exact R _ _ ⟨a+1,r,_,_,rfl,a_,ii.upd.trans ii.upd,by omega,by omega,W,abL _ (by decide),abM _ (by decide)⟩
   ·exact R _ _ ⟨a,r,sd,_,rfl,i,ii.refl,a0,a1,W,X,Y⟩
  ·exact R _ _ ⟨a,r,sd,_,rfl,i,ii.refl,a0,a1,W,X,Y⟩
def Dr.dk(d:Dr H p c):∃b,H p=some (.dK b):=by obtain⟨f,a,r,s,e,_⟩:=d.ex;exact⟨_,e⟩
def Dr.seq(d:Dr H p c)(e:ii p H b)(h:fj K H a xs):fj K b a xs:=let⟨_,f⟩:=d.dk;e.seq f h
def Dr.rep(d:Dr H p c)(e:ii p H a)(h:Rep K H v x):Rep K a v x:=let⟨_,b⟩:=d.dk;h.but e b
def Dr.reps(d:Dr H p c)(e:ii p H a)(h:gn K H v x):gn K a v x:=let⟨_,b⟩:=d.dk;h.but e b
def Dr.new(d:Dr H p c)(h:H q=none):Dr (upd H q o) p c:=d.mono (di.new h)
inductive xr(K:Zs)(vs:List V)(H:Hp)(Q:VK)(E:XK):Prop
 |mk (p c q:Zl) (xs:List V):vs=[.ref p,.ref q]->Dr H p c->fj K H q xs->xs≠[]->xs.length<=1000->(∀(x:V)(H':Hp),x∈xs->Dr H' p c->ii p H H'->Q x H')->xr K vs H Q E
def scO:du ["_law_d","_law_things"] ["_law_d","_law_things"] (b_ (top 114)):=by ext
def vq(F:ir K "_law_of" "_law_of" (top 114) f n)(T:Txt K mg)(o:gq K mg "_law_pick" (top 113) ["_law_d","_law_many"] m b):dm P w K mg base dU 2 f n ["_law_d","_law_things"] (xr K):=by
 have B:dm P w K mg base dU 1 m b ["_law_d","_law_many"] jK:=jH o.F T;refine F.ok scO (by ext) λv A d s H vs Q E x h=>?_;obtain⟨p,c,q,a,rfl,D,l,e,G,k⟩:=h;refine⟨_,(d8 (dw (dZ g_ (pv 1) (iJ o B x (aK (pv 0) (aK (dD dO (by rfl) T.len gD (aK (pv 1) cZ)) cZ)))))),?_⟩
 try dsimp only[jr]
 have g:0<a.length:=ab5.mpr e;refine⟨_,rfl,_,rfl,_,rfl,q,a,rfl,(.inl l),p,c,_,rfl,D,by omega,by omega,λr C y r1 z bt=>?_⟩;obtain⟨j,rfl⟩:=acR y;have i:j<a.length:=by omega
 exact⟨q,a,_,a[j],rfl,rfl,D.seq bt l,dz (aaz i),k _ _ (List.getElem_mem i) z bt⟩
noncomputable def spS(K:Zs):Nat->Sp
 |0=>λ_ _ _ _=>False
 |n+1=>λvs H Q _=>∃(x y:V)(d:PyData),vs=[x,y]/\Rep K H x d/\Rep K H y d/\gU d<=n/\jO d<=100000/\∀a:Hp,di H a->Q (.bl true) a
def ZL:du ["_law_found","_law_due"] ["_law_found","_law_due"] (b_ (top 115)):=by ext
def wV{Q:VK}{v:V}{H:Hp}(h:Q (.bl true) H):Q (.bl (decide (v=v))) H:=by rw [aa1 rfl];exact h
set_option tactic.hygienic true in
theorem Mr{f:Zl}{fd:ZB}(DS:gq K mg "_law_same" (top 115) ["_law_found","_law_due"] f fd)(T:Txt K mg)(n:Nat):dm P w K mg base dU n f fd ["_law_found","_law_due"] (spS K n):=by
 refine Nat.rec (motive:=λn=>dm P w K mg base dU n f fd ["_law_found","_law_due"] (spS K n)) ⟨λ_ _ _ _ h=>h.elim,λ_ _ _ _ _ _ _ _ _ _ _ _ _ h=>h.elim⟩ (λn GS=>?_) n;refine DS.F.ok ZL (by ext) λab A Y s H vs Q E hr h=>?_;obtain⟨x,y,d,rfl,hx,M,W,X,k⟩:=h;refine⟨_,(bK (eX (dM wX (pv 1) l_ (dN _)) (d8 (dw (iz wX (pv 0) l_ (dN _)))) dI) (bK (eX (PW.pt (uA (iT (dD ig (by rfl) T.isinstance eQ (aK (pv 1) (aK (jz rfl T.bool pI) cZ)))) (tR (iT (dD ig (by rfl) T.isinstance eQ (aK (pv 0) (aK (jz rfl T.bool pI) cZ))))))) (d8 (dw (jf (dD ig (by rfl) T.isinstance eQ (aK (pv 1) (aK (jz rfl T.bool pI) cZ))) (jf (dD ig (by rfl) T.isinstance eQ (aK (pv 0) (aK (jz rfl T.bool pI) cZ))) (kJ (iz gG (pv 0) (pv 1) (dN _))))))) dI) (bK (eX (iT (dD uF (by rfl) T.isinstance eQ (aK (pv 1) (aK (gw (aK (jz rfl T.int pZ) (aK (jz rfl T.str Ao) cZ))) cZ)))) (d8 (dw (jf (dD uF (by rfl) T.isinstance eQ (aK (pv 0) (aK (gw (aK (jz rfl T.int pZ) (aK (jz rfl T.str Ao) cZ))) cZ))) (jf (iz gG (dD ig (by rfl) T.isinstance eQ (aK (pv 0) (aK (jz rfl T.int pZ) cZ))) (dD ig (by rfl) T.isinstance eQ (aK (pv 1) (aK (jz rfl T.int pZ) cZ))) (dN _)) (kJ (iz gG (pv 0) (pv 1) (dN _))))))) dI) (bK (eX (PW.pt (uA (dM uw (dD ig (by rfl) T.isinstance eQ (aK (pv 1) (aK (jz rfl T.list vY) cZ))) (dD ig (by rfl) T.isinstance eQ (aK (pv 0) (aK (jz rfl T.list vY) cZ))) (dN _)) (tR (dM uw (dD ig (by rfl) T.isinstance eQ (aK (pv 1) (aK (jz rfl T.tuple jE) cZ))) (dD ig (by rfl) T.isinstance eQ (aK (pv 0) (aK (jz rfl T.tuple jE) cZ))) (dN _))))) (d8 (dw lD)) dI) (d8 (dw (jf (iz gG (dD dO (by rfl) T.len gD (aK (pv 0) cZ)) (dD dO (by rfl) T.len gD (aK (pv 1) cZ)) (dN _)) (kJ (dD (uB rfl) (by rfl) T.all Hf (aK (jb (own:=["_law_k"]) (js:=[0,1]) (N':=["_law_k","_law_found","_law_due"]) (dX.of (osc:=b_ (top 115)) (N:=["_law_found","_law_due"]) rfl rfl (by ext)) rfl (kI rfl T.range (aK (dD dO (by rfl) T.len gD (aK (pv 1) cZ)) cZ)) (λ_ _ _ _ _=>(fZ (i:=0) (show List.Nodup (["_law_k","_law_found","_law_due"]:Y2) by ext) rfl (.inl rfl) (.inr rfl))) (λ_ _ _ _ _=>gF) (λ_ _ _ _ _=>(iJ DS GS hr (aK (dZ (r:=XJ K) Fg (pv 1) (pv 0)) (aK (dZ (r:=XJ K) Fg (pv 2) (pv 0)) cZ))))) cZ)))))))))),?_⟩
 try dsimp only[jr]
 have z2:2<=sizeLine:=by decide
 cases hx with
 | non=>cases M;refine⟨_,rfl,rfl,_,rfl,j5 rfl ?_⟩;exact⟨_,rfl,rfl,k _ (di.refl _)⟩
 | bl b=>cases M;refine⟨_,rfl,rfl,_,rfl,gW rfl ?_⟩;refine⟨_,rfl,_,_,_,_,rfl,(.bl b),rfl,_,rfl,j5 rfl (j5 rfl ?_)⟩;exact⟨_,rfl,_,_,_,_,rfl,(.bl b),rfl,_,rfl,j5 rfl ⟨_,rfl,_,_,_,_,rfl,(.bl b),rfl,_,rfl,j5 rfl ⟨_,rfl,_,rfl,rfl,wV (k _ (di.refl _))⟩⟩⟩
 | int i=>cases M;refine⟨_,rfl,rfl,_,rfl,gW rfl ?_⟩;refine⟨_,rfl,_,_,_,_,rfl,(.int i),rfl,_,rfl,gW rfl ?_⟩;refine⟨_,rfl,_,_,_,_,rfl,(.int i),rfl,_,rfl,gW rfl ?_⟩;refine⟨_,rfl,z2,λp D=>⟨_,p,_,_,_,_,rfl,a_,.int i,rfl,_,rfl,j5 rfl ?_⟩⟩;refine⟨_,rfl,z2,λZ F=>⟨_,Z,_,_,_,_,rfl,a_,.int i,rfl,_,rfl,j5 rfl ?_⟩⟩;refine⟨_,rfl,_,_,_,_,rfl,.int i,rfl,_,rfl,_,_,_,_,rfl,.int i,rfl,rfl,_,rfl,?_⟩;exact j5 rfl ⟨_,rfl,_,rfl,rfl,wV (k _ ((di.new D).trans (di.new F)))⟩
 | str z=>cases M;refine⟨_,rfl,rfl,_,rfl,gW rfl ?_⟩;refine⟨_,rfl,_,_,_,_,rfl,(.str z),rfl,_,rfl,gW rfl ?_⟩;refine⟨_,rfl,_,_,_,_,rfl,(.str z),rfl,_,rfl,gW rfl ?_⟩;refine⟨_,rfl,z2,λp D=>⟨_,p,_,_,_,_,rfl,a_,.str z,rfl,_,rfl,j5 rfl ?_⟩⟩;refine⟨_,rfl,z2,λZ F=>⟨_,Z,_,_,_,_,rfl,a_,.str z,rfl,_,rfl,j5 rfl ?_⟩⟩;refine⟨_,rfl,_,_,_,_,rfl,.str z,rfl,_,rfl,_,_,_,_,rfl,.str z,rfl,rfl,_,rfl,?_⟩;exact j5 rfl ⟨_,rfl,_,rfl,rfl,wV (k _ ((di.new D).trans (di.new F)))⟩
 | tup g C=>
   cases M with
   | tup o e=>
     rename_i a1 j ds a2 a;refine⟨_,rfl,rfl,_,rfl,gW rfl ?_⟩;refine⟨_,rfl,_,_,_,_,rfl,(.tup o e),rfl,_,rfl,gW rfl ?_⟩;refine⟨_,rfl,_,_,_,_,rfl,(.tup g C),rfl,_,rfl,gW rfl ?_⟩;refine⟨_,rfl,z2,λp D=>⟨_,p,_,_,_,_,rfl,a_,Rep.same (.tup o e) (di.new D),rfl,_,rfl,gW rfl ?_⟩⟩;have c:di H (upd H p (.tup [.ty "int",.ty "str"])):=di.new D;refine⟨_,rfl,_,_,_,_,rfl,(Rep.same (.tup o e) c),rfl,_,rfl,_,_,_,_,rfl,(Rep.same (.tup g C) c),rfl,rfl,_,rfl,gW rfl ?_⟩;refine⟨_,rfl,_,_,_,_,rfl,(Rep.same (.tup o e) c),rfl,_,rfl,_,_,_,_,rfl,(Rep.same (.tup g C) c),rfl,rfl,_,rfl,gW rfl ?_⟩;refine⟨_,rfl,_,_,rfl,.inr (c.tup g),_,rfl,_,_,rfl,.inr (c.tup o),rfl,_,rfl,?_⟩;have l1:=C.length;have l2:=e.length;have B:a.length<=100000:=by simp only[jO]at X;omega
     have hl:j.length=a.length:=by omega
     generalize upd H p (.tup [.ty "int",.ty "str"])=H1 at c|-;refine j5 (by rw[hl];simp) ?_;obtain⟨n,rfl⟩:∃n',n=n'+1:=⟨n-1,by simp only[gU]at W;omega⟩;refine⟨_,rfl,_,_,rfl,.inr (c.tup o),_,rfl,by omega,by omega,?_⟩;refine oH (n:=a.length) (λi ys l G=>∃(v:Option V),ys=(List.replicate i true).map V.bl/\l=[v,some _,some _]/\di H1 G) (by exact aag B (by decide)) ⟨none,rfl,rfl,di.refl _⟩ ?_ ?_
     ·rintro i ys l G U L⟨v,rfl,rfl,m⟩N hN;obtain⟨d1,R,r1⟩:=C.get' (i:=i) (x:=j[i]) (aaz (by omega));obtain⟨d2,S,r2⟩:=e.get' (i:=i) (x:=a[i]) (aaz U);rw[R]at S;cases S;have O:=aaj R;have q1:=pM O;have q2:=rZ O;have I:qF j (0+(i:Int))=some j[i]:=by rw[abN];exact dz (aaz (by omega))
      have J:qF a (0+(i:Int))=some a[i]:=by rw[abN];exact dz (aaz U)
      refine⟨_,rfl,_,rfl,.inr (.inl ⟨_,_,_,_,rfl,rfl,(c.trans m).tup g,I,?_⟩)⟩;refine⟨_,rfl,_,rfl,.inr (.inl ⟨_,_,_,_,rfl,rfl,(c.trans m).tup o,J,?_⟩)⟩;refine⟨_,_,d1,rfl,r1.same (c.trans m),r2.same (c.trans m),?_,?_,λaa s3=>?_⟩
      ·simp only[gU]at W;omega
      ·simp only[jO]at X;omega
      exact hN _ _ _ (by simp) ⟨_,by rw[List.replicate_succ',aaw];rfl,rfl,m.trans s3⟩
     ·rintro ys l G L⟨v,rfl,rfl,m⟩;refine⟨by rw[aad,acg];exact aag B (by decide),λq hq=>⟨q,_,rfl,fj.of a_,?_⟩⟩;show Q (.bl ((List.replicate a.length true).all id)) _;rw[show(List.replicate a.length true).all id=true by simp];exact k _ ((c.trans m).trans (di.new hq))
 | lst g C=>
   cases M with
   | lst o e=>
     rename_i a1 j ds a2 a;refine⟨_,rfl,rfl,_,rfl,gW rfl ?_⟩;refine⟨_,rfl,_,_,_,_,rfl,(.lst o e),rfl,_,rfl,gW rfl ?_⟩;refine⟨_,rfl,_,_,_,_,rfl,(.lst g C),rfl,_,rfl,gW rfl ?_⟩;refine⟨_,rfl,z2,λp D=>⟨_,p,_,_,_,_,rfl,a_,Rep.same (.lst o e) (di.new D),rfl,_,rfl,gW rfl ?_⟩⟩;have c:di H (upd H p (.tup [.ty "int",.ty "str"])):=di.new D;refine⟨_,rfl,_,_,_,_,rfl,(Rep.same (.lst o e) c),rfl,_,rfl,_,_,_,_,rfl,(Rep.same (.lst g C) c),rfl,rfl,_,rfl,gW rfl ?_⟩;refine⟨_,rfl,_,_,_,_,rfl,(Rep.same (.lst o e) c),rfl,_,rfl,_,_,_,_,rfl,(Rep.same (.lst g C) c),rfl,rfl,_,rfl,gW rfl ?_⟩;refine⟨_,rfl,_,_,rfl,.inl (c.seq g),_,rfl,_,_,rfl,.inl (c.seq o),rfl,_,rfl,?_⟩;have l1:=C.length;have l2:=e.length;have B:a.length<=100000:=by simp only[jO]at X;omega
     have hl:j.length=a.length:=by omega
     generalize upd H p (.tup [.ty "int",.ty "str"])=H1 at c|-;refine j5 (by rw[hl];simp) ?_;obtain⟨n,rfl⟩:∃n',n=n'+1:=⟨n-1,by simp only[gU]at W;omega⟩;refine⟨_,rfl,_,_,rfl,.inl (c.seq o),_,rfl,by omega,by omega,?_⟩;refine oH (n:=a.length) (λi ys l G=>∃(v:Option V),ys=(List.replicate i true).map V.bl/\l=[v,some _,some _]/\di H1 G) (by exact aag B (by decide)) ⟨none,rfl,rfl,di.refl _⟩ ?_ ?_
     ·rintro i ys l G U L⟨v,rfl,rfl,m⟩N hN;obtain⟨d1,R,r1⟩:=C.get' (i:=i) (x:=j[i]) (aaz (by omega));obtain⟨d2,S,r2⟩:=e.get' (i:=i) (x:=a[i]) (aaz U);rw[R]at S;cases S;have O:=aaj R;have q1:=pM O;have q2:=rZ O;have I:qF j (0+(i:Int))=some j[i]:=by rw[abN];exact dz (aaz (by omega))
      have J:qF a (0+(i:Int))=some a[i]:=by rw[abN];exact dz (aaz U)
      refine⟨_,rfl,_,rfl,.inl ⟨_,_,_,_,rfl,rfl,(c.trans m).seq g,I,?_⟩⟩;refine⟨_,rfl,_,rfl,.inl ⟨_,_,_,_,rfl,rfl,(c.trans m).seq o,J,?_⟩⟩;refine⟨_,_,d1,rfl,r1.same (c.trans m),r2.same (c.trans m),?_,?_,λaa s3=>?_⟩
      ·simp only[gU]at W;omega
      ·simp only[jO]at X;omega
      exact hN _ _ _ (by simp) ⟨_,by rw[List.replicate_succ',aaw];rfl,rfl,m.trans s3⟩
     ·rintro ys l G L⟨v,rfl,rfl,m⟩;refine⟨by rw[aad,acg];exact aag B (by decide),λq hq=>⟨q,_,rfl,fj.of a_,?_⟩⟩;show Q (.bl ((List.replicate a.length true).all id)) _;rw[show(List.replicate a.length true).all id=true by simp];exact k _ ((c.trans m).trans (di.new hq))
end
noncomputable def Lc(x:Str):Prop:=∀c∈x.cps.toList,97<=c/\c<=122
structure Nm(x:Str):Prop where
 lo:1<=x.length
 hi:x.length<=8
 lc:Lc x
def Lc.app(a:Lc x)(b:Lc y):Lc (x++y):=λc d=>by rw[Str.cps_append,acS,aak]at d;exact d.elim (a c) (b c)
theorem rG(a:Str)(b:a.cps.toList=[]):∀ys:List Str,(Str.join a ys).cps.toList=(ys.map (·.cps.toList)).flatten
 |[]=>rfl
 |[x]=>by show x.cps.toList=_;simp
 | x::y::r=>by show(x++a++Str.join a (y::r)).cps.toList=_;rw[Str.cps_append,acS,Str.cps_append,acS,b,aaQ,rG a b (y::r),aat (l:=y::r),List.flatten_cons]
def Ib(a:Str)(ys:Y2):PySem.Txt.join a ys=Str.join a ys:=by show PySem.Builtin.Str.glued a ys=_;rw[PySem.StrLaws.glued_eq_join]
def Ca(x:Str):x.length=x.cps.toList.length:=by simp[Str.length]
section
variable{P:ZE}{w:ZH}{K:Zs}{mg:Y1}{base:ZN}
inductive vN(vs:List V)(H:Hp)(Q:VK)(E:XK):Prop
 |mk (p dc:Zl):vs=[.ref p]->Dr H p dc->(∀(x:Str)(H':Hp),Nm x->Dr H' p dc->ii p H H'->Q (.str x) H')->vN vs H Q E
def Ud:du ["_law_d","_law_letters","_law_first","_law_size","_law_some"] ["_law_d"] (b_ (top 116)):=by ext
def Aa(h:qF ("abcdefghijklmnopqrstuvwxyz":Str).cps.toList i=some c):97<=c/\c<=122:=by
 have:c∈("abcdefghijklmnopqrstuvwxyz":Str).cps.toList:=by unfold qF at h;obtain⟨j,_,e⟩:=Option.bind_eq_some_iff.mp h;exact aaj e
 have all:∀c∈("abcdefghijklmnopqrstuvwxyz":Str).cps.toList,97<=c/\c<=122:=by ext
 exact all c this
def Bj(F:ir K "_law_word" "_law_word" (top 116) f fd)(T:Txt K mg)(U:gq K mg "_law_pick" (top 113) ["_law_d","_law_many"] fP R)(DO:gq K mg "_law_of" (top 114) ["_law_d","_law_things"] fO S):
 dm P w K mg base dU 3 f fd ["_law_d"] vN:=by
 have GP:dm P w K mg base dU 1 fP R ["_law_d","_law_many"] jK:=jH U.F T;have GO:dm P w K mg base dU 2 fO S ["_law_d","_law_things"] (xr K):=vq DO.F T U;refine F.ok Ud (by ext) λag A Y s H vs Q E hr h=>?_;obtain⟨p,C,rfl,D,k⟩:=h;have B:eZ 1 _:=hr.mono (by decide);refine⟨_,(bK (jj 1 Ud.nd dC) (bK (jj 2 Ud.nd (iJ DO GO hr (aK (pv 0) (aK (gC (aK dC (aK dC (aK dC (aK dC (aK dC cZ)))))) cZ)))) (bK (jj 3 Ud.nd (fX iI dh (iJ U GP B (aK (pv 0) (aK (fX jR dh (dD pF (by rfl) T.len gD (aK (pv 2) cZ))) cZ))))) (bK (jj 4 Ud.nd (lE ab6 PySem.F.slot_str_join PySem.F.type_str_join BL dC (aK (jb (own:=["_law_k"]) (js:=[1,0]) (N':=["_law_k","_law_letters","_law_d"]) (dX.of (osc:=b_ (top 116)) (N:=["_law_d","_law_letters","_law_first","_law_size","_law_some"]) rfl rfl (by ext)) rfl (kI rfl T.range (aK (pv 3) cZ)) (λ_ _ _ _ _=>(fZ (i:=0) (show List.Nodup (["_law_k","_law_letters","_law_d"]:Y2) by ext) rfl (.inl rfl) (.inr rfl))) (λ_ _ _ _ _=>gF) (λ_ _ _ _ _=>(dZ (r:=Qz) vI (pv 1) (iJ U GP B (aK (pv 2) (aK dh cZ)))))) cZ))) (d8 (dw (dZ g_ (gC (aK (fX oN (pv 2) (pv 4)) (aK (fX oN (pv 4) (pv 2)) cZ))) (iJ U GP B (aK (pv 0) (aK dh cZ)))))))))),?_⟩
 try dsimp only[jr]
 refine⟨_,rfl,(by ext),λq hq=>?_⟩;refine⟨p,C,q,_,rfl,D.new hq,fj.of a_,by simp,by simp,λx H1 m D1 b1=>?_⟩;obtain⟨z,rfl,hz,lz⟩:∃z:Str,x=.str z/\z.length<=7/\Lc z:=by
  simp only[aai,aa4,or_false]at m;rcases m with rfl|rfl|rfl|rfl|rfl
  all_goals exact⟨_,rfl,by ext,by unfold Lc;decide+kernel⟩
 refine⟨_,rfl,_,rfl,z,rfl,aag hz (by decide),_,_,rfl,rfl,p,C,_,rfl,D1,by omega,by omega,λr H2 r0 r1 D2 b2=>?_⟩;refine⟨_,_,rfl,rfl,?_⟩;refine⟨rfl,_,rfl,_,rfl,by omega,by omega,?_⟩;refine oH (n:=(1+r).toNat) (λi ys y W=>∃(cs:Y2)(v:Option V),ys=cs.map V.str/\y=[v,some (.str "abcdefghijklmnopqrstuvwxyz"),some (.ref p)]/\Dr W p C/\ii p H2 W/\∀c∈cs,c.length=1/\Lc c) (aag (show(1+r).toNat<=8 by omega) (by decide)) ⟨[],none,rfl,rfl,D2,ii.refl,λ_ h=>nomatch h⟩ ?_ ?_
 ·rintro i ys y W hi b⟨cs,v,rfl,rfl,D3,b3,O⟩N hN;refine⟨_,rfl,_,rfl,p,C,_,rfl,D3,by decide,by decide,λZ H4 G aa X b4=>?_⟩;obtain⟨j,rfl⟩:=acR G;obtain⟨c,ad⟩:∃c,("abcdefghijklmnopqrstuvwxyz":Str).cps.toList[j]?=some c:=⟨_,aaz (by show j<26;omega)⟩;have L:qF ("abcdefghijklmnopqrstuvwxyz":Str).cps.toList (j:Int)=some c:=dz ad;refine⟨_,_,c,rfl,rfl,(by ext),L,?_⟩;refine hN _ _ _ (by simpa using b) ⟨cs++[⟨#[c]⟩],_,by simp,rfl,X,b3.trans b4,λc' a=>?_⟩;rcases aak.mp a with a|a
  ·exact O c' a
  ·obtain rfl:c'=⟨#[c]⟩:=by simpa using a
   refine⟨rfl,λx m=>?_⟩;obtain rfl:x=c:=by simpa using m
   exact Aa L
 ·rintro ys y W b⟨cs,v,rfl,rfl,D3,b3,O⟩;rw[aad]at b;refine⟨by rw[aad,b];exact aag (show(1+r).toNat<=8 by omega) (by decide),λq2 I=>?_⟩;have g:(cs.map (·.length)).sum=cs.length:=by
   clear b;induction cs with
   |nil=>rfl
   |cons c t ih=>rw[aat,abx,ih λd hd=>O d (aah _ hd),(O c aal).1,aav,Nat.add_comm]
  refine⟨_,q2,cs,rfl,rfl,fj.of a_,by rw[g,show(Str.ofString "").length=0 from rfl];omega,?_⟩;rw[Ib];have jl:(Str.join (Str.ofString "") cs).length=cs.length:=by rw[Ca,rG _ rfl,List.length_flatten,aby,<-g];congr 1
  have jc:Lc (Str.join (Str.ofString "") cs):=λx m=>by rw[rG _ rfl]at m;obtain⟨l,hl,ae⟩:=List.mem_flatten.mp m;obtain⟨c,af,rfl⟩:=aap.mp hl;exact(O c af).2 x ae
  generalize Str.join (Str.ofString "") cs=e at jl jc;have ah:e.length+z.length<=8/\1<=e.length:=by omega
  refine⟨_,rfl,_,rfl,_,_,rfl,rfl,aag (show z.length+e.length<=8 by omega) (by decide),_,rfl,_,rfl,_,_,rfl,rfl,aag (show e.length+z.length<=8 by omega) (by decide),(by ext),λq3 J=>?_⟩;have X:Dr _ p C:=(D3.new (o:=.lst (cs.map V.str)) I).new (o:=.lst [.str (z++e),.str (e++z)]) J;refine⟨_,rfl,p,C,_,rfl,X,by decide,by decide,λZ H5 G aa D5 b5=>?_⟩;have ab:Nm (z++e):=⟨by rw[abO];omega,by rw[abO];omega,lz.app jc⟩;have ac:Nm (e++z):=⟨by rw[abO];omega,by rw[abO];omega,jc.app lz⟩;have bt:ii p H H5:=((((ii.new hq).trans b1).trans b2).trans b3).trans (((ii.new I).trans (ii.new J)).trans b5);have M:fj K H5 q3 [.str (z++e),.str (e++z)]:=X.seq b5 (fj.of a_);by_cases h0:Z=0
  ·subst h0;exact⟨_,_,_,_,rfl,rfl,M,rfl,k _ _ ab D5 bt⟩
  ·obtain rfl:Z=1:=by omega
   exact⟨_,_,_,_,rfl,rfl,M,rfl,k _ _ ac D5 bt⟩
inductive qW(K:Zs)(vs:List V)(H:Hp)(Q:VK)(E:XK):Prop
 |mk (p dc:Zl) (m:Int):vs=[.ref p,.int m]->Dr H p dc->0<=m->m<=60->(∀(q:Zl)(ys:Y2)(H':Hp),H' q=some (.lst (ys.map V.str))->H q=none->(ys.length:Int)=m->(∀y∈ys,Nm y)->ys.Nodup->Dr H' p dc->ii p H H'->Q (.ref q) H')->qW K vs H Q E
def En:du ["_law_d","_law_many","_law_found","_law_k","_law_word_here","_law_step"] ["_law_d","_law_many"] (b_ (top 117)):=by ext
noncomputable def wd(t:Nat):Str:=⟨#[97+t % 8,113+t/8 % 8]⟩
def RP(t:Nat):Nm (wd t):=⟨by show 1<=2;decide,by show 2<=8;decide,λc a=>by
 have:c=97+t % 8\/c=113+t/8 % 8:=by simpa[wd]using a
 omega⟩
def O8(h:wd (k+s)=wd (k+a))(c:s<64)(d:a<64):s=a:=by
 have e:(#[97+(k+s) % 8,113+(k+s)/8 % 8]:Array Nat)=#[97+(k+a) % 8,113+(k+a)/8 % 8]:=aaB Str.cps h;have b:97+(k+s) % 8=97+(k+a) % 8/\113+(k+s)/8 % 8=113+(k+a)/8 % 8:=by simpa using aaB Array.toList e
 omega
theorem sub_len{d:Type}[DecidableEq d]:∀{l ys:List d},l.Nodup->(∀x∈l,x∈ys)->l.length<=ys.length
 |[],_,_,_=>aaJ _
 | a::l,ys,nd,hs=>by obtain⟨e,f⟩:=aaD.mp nd;have c:=hs a aal;have q:=sub_len (ys:=ys.erase a) f λx b=>(List.mem_erase_of_ne (by intro z;exact e (z▸b))).mpr (hs x (aah _ b));rw[List.length_erase_of_mem c]at q;have:=List.length_pos_of_mem c;rw[aav];omega
theorem Gj{d o:Type}{f:d->o}:∀{l:List d},l.Nodup->(∀a∈l,∀b∈l,f a=f b->a=b)->(l.map f).Nodup
 |[],_,_=>abe
 | a::l,nd,h=>by obtain⟨j,n⟩:=aaD.mp nd;rw[aat];refine aaD.mpr ⟨λm=>?_,Gj n λx g y i=>h x (aah _ g) y (aah _ i)⟩;obtain⟨b,c,e⟩:=aap.mp m;exact j (h b (aah _ c) a aal e▸c)
def QW{ys:Y2}(i:ys.length<64)(h:∀s,s<64->wd (k+s)∈ys):False:=by
 have nd:((List.range 64).map λs=>wd (k+s)).Nodup:=Gj List.nodup_range λa c b d e=>O8 e (acb.mp c) (acb.mp d);have q:=sub_len nd λx f=>by obtain⟨s,g,rfl⟩:=aap.mp f;exact h s (acb.mp g)
 rw[aad,List.length_range]at q;omega
def yp(F:ir K "_law_words" "_law_words" (top 117) f fd)(T:Txt K mg)(DP:gq K mg "_law_pick" (top 113) ["_law_d","_law_many"] fP fdP)(DO:gq K mg "_law_of" (top 114) ["_law_d","_law_things"] fO fdO)
 (DW:gq K mg "_law_word" (top 116) ["_law_d"] fW G):dm P w K mg base dU 4 f fd ["_law_d","_law_many"] (qW K):=by
 have GW:dm P w K mg base dU 3 fW G ["_law_d"] vN:=Bj DW.F T DP DO;refine F.ok En (by ext) λae A M s H vs Q E hr h=>?_;obtain⟨p,Y,m,rfl,D,m0,m1,k⟩:=h;refine⟨_,(bK (jj 2 En.nd (gC cZ)) (bK (j6 aaO rfl (kI rfl T.range (aK (pv 1) cZ)) (jP 3 En.nd) (bK (jj 4 En.nd (iJ DW GW hr (aK (pv 0) cZ))) (bK (j6 aaO rfl (kI rfl T.range (aK dh cZ)) (jP 5 En.nd) (d8 (eX (dM mJ (pv 4) (pv 2) rfl) (d8 (jj 4 En.nd (fX oN (dZ vI dC (fX lX (fX iI (pv 3) (pv 5)) dh)) (dZ vI dC (fX lX (fX Cg (fX iI (pv 3) (pv 5)) dh) dh))))) dI))) (d8 (fc (lE aaZ aa3 aa8 j4 (pv 2) (aK (pv 4) cZ))))))) (d8 (dw (pv 2))))),?_⟩
 try dsimp only[jr]
 refine⟨(by ext),λq r=>?_⟩;refine⟨_,rfl,m,rfl,by omega,by omega,?_⟩;refine qb (n:=m.toNat) (λi d l=>∃(ys:Y2)(a b c:Option V),d=[some (.ref p),some (.int m),some (.ref q),a,b,c]/\l q=some (.lst (ys.map V.str))/\ys.length=i/\(∀y∈ys,Nm y)/\ys.Nodup/\Dr l p Y/\ii p H l)
  ⟨[],none,none,none,rfl,a_,rfl,(λ_ h=>by cases h),abe,D.new r,ii.new r⟩ ?_ ?_
 ·rintro i d l hi⟨ys,a,b,c,rfl,J,hl,Z,nd,L,b1⟩;refine⟨_,rfl,p,Y,rfl,L,λx H2 nx D2 b2=>?_⟩;have I:H2 q=some (.lst (ys.map V.str)):=b2 q _ J (L.ne J (by intro aa z;cases z));refine⟨_,rfl,by decide,by decide,?_⟩;refine qb (n:=64) (λj d N=>∃(z:Str)(c:Option V),d=[some (.ref p),some (.int m),some (.ref q),some (.int (0+(i:Int))),some (.str z),c]/\Nm z/\N=H2/\(z∉ys\/∀s,s<j->wd (i+s)∈ys)) ⟨x,_,rfl,nx,rfl,.inr λs hs=>absurd hs (acn _)⟩ ?_ ?_
  ·rintro j d N hj⟨z,c,rfl,nz,rfl,hz⟩;refine⟨_,rfl,_,rfl,q,_,rfl,.inl (fj.of I),rfl,?_,_,rfl,?_⟩
   ·rw[abR];intro v hv;obtain⟨y,_,rfl⟩:=aap.mp hv;rfl
   ·have B:inV (.str z) (ys.map V.str)=true↔z∈ys:=by
     unfold inV;rw[List.any_map,abG];constructor
     ·rintro⟨y,ab,ac⟩;have:y=z:=by simpa[zm]using ac
      exact this▸ab
     ·intro g;exact⟨z,g,by simp[zm]⟩
    refine jT (λO=>?_) (λO=>⟨z,_,rfl,nz,rfl,.inl λg=>O (B.mpr g)⟩);have S:=B.mp O;have U:∀s,s<j->wd (i+s)∈ys:=hz.elim (λn=>absurd S n) id;have u1:(0+(i:Int)+(0+(j:Int))) % 8=(((i+j) % 8:Nat):Int):=by omega
    have u2:(0+(i:Int)+(0+(j:Int)))/8 % 8=(((i+j)/8 % 8:Nat):Int):=by omega
    have h1:("abcdefgh":Str).cps.toList[(i+j) % 8]?=some (97+(i+j) % 8):=by have:=Nat.mod_lt (i+j) (show 0<8 by decide);generalize(i+j) % 8=m8 at this;revert m8;decide+kernel
    have h2:("qrstuvwx":Str).cps.toList[(i+j)/8 % 8]?=some (113+(i+j)/8 % 8):=by have:=Nat.mod_lt ((i+j)/8) (show 0<8 by decide);generalize(i+j)/8 % 8=m8 at this;revert m8;decide+kernel
    refine⟨_,rfl,_,rfl,_,_,rfl,rfl,_,_,rfl,rfl,(by show(0:Int)<8;decide),_,_,_,rfl,rfl,(by ext),(by rw[u1];exact dz h1),?_⟩;refine⟨_,rfl,_,rfl,_,_,rfl,rfl,_,_,rfl,rfl,⟨by decide,by decide⟩,_,_,rfl,rfl,(by show(0:Int)<8;decide),_,_,_,rfl,rfl,(by ext),(by rw[u2];exact dz h2),?_⟩;refine⟨_,_,rfl,rfl,(show 1+1<=sizeLine by decide),wd (i+j),_,rfl,RP _,rfl,?_⟩;by_cases hw:wd (i+j)∈ys
    ·refine .inr λs hs=>?_;by_cases ad:s=j
     ·rw[ad];exact hw
     ·exact U s (by omega)
    ·exact .inl hw
  ·rintro d N⟨z,c,rfl,nz,rfl,hz⟩;have C:z∉ys:=hz.elim id λh=>(QW (by omega) h).elim;refine⟨_,rfl,.inl ⟨rfl,_,fj.of I⟩,_,rfl,q,_,_,rfl,rfl,I,by rw[aad];exact nW (by omega),?_⟩;have W:q≠Y:=by obtain⟨xs,e⟩:=D.cell;exact(dg e r).symm
   have X:q≠p:=D2.ne I (by intro aa z;cases z);refine⟨ys++[z],_,_,_,rfl,by rw[a_];simp,by simp[hl],λy R=>(aak.mp R).elim (Z y) (λh=>by rw[aam.mp h];exact nz),Cu nd C,D2.put X W,λb o e hb=>?_⟩;rw[c7 (dg e r)];exact(b1.trans b2) b o e hb
 ·rintro d l⟨ys,a,b,c,rfl,J,hl,Z,nd,L,b1⟩;exact⟨_,rfl,k q ys l J r (by omega) Z nd L b1⟩
end
abbrev ji:=Str×Int×Int
structure nU(f:ji):Prop where
 nm:Nm f.1
 lo:-999999<=f.2.1
 le:f.2.1<=f.2.2
 hi:f.2.2<=999999
noncomputable def TK(H c:Hp):Prop:=∀b a,H b=some (.tup a)->c b=some (.tup a)
def TK.trans(a:TK H e)(b:TK e f):TK H f:=λc d h=>b c d (a c d h)
def TK.but(d:Dr H p f)(b:ii p H a):TK H a:=λc g h=>b c _ h (d.ne h (by intro e z;cases z))
def TK.lst(h:H q=some (.lst a)):TK H (upd H q o):=λc ys e=>by rw[c7 (j9 e h (by intro z;cases z))];exact e
def TK.new(h:H q=none):TK H (upd H q o):=λc ys e=>by rw[c7 (dg e h)];exact e
noncomputable def jG(H:Hp)(x:V)(f:ji):Prop:=∃b,x=.ref b/\H b=some (.tup [.str f.1,.int f.2.1,.int f.2.2])
def jG.tk(h:jG H x f)(k:TK H a):jG a x f:=let⟨b,e,q⟩:=h;⟨b,e,k _ _ q⟩
theorem j7:∀{a:List V}{fs:List ji},Paired (jG H) a fs->TK H b->Paired (jG b) a fs
 |_,_,.nil,_=>.nil
 |_,_,.cons r t,k=>.cons (r.tk k) (j7 t k)
def uni:∀c<128,Unicode.isAlpha c=(decide (65<=c/\c<=90)||decide (97<=c/\c<=122))/\Unicode.isLower c=decide (97<=c/\c<=122)/\Unicode.isUpper c=decide (65<=c/\c<=90)/\Unicode.isTitle c=false:=by ext
noncomputable def nameB(x:Str):Bool:=decide (x.length<=8)&&(x.cps.all (·<128)&&((x.length >0&&x.cps.all Unicode.isAlpha)&&(x.cps.any Unicode.isLower&&!x.cps.any λc=>Unicode.isUpper c||Unicode.isTitle c)))
def mH(x:Str):nameB x=true↔Nm x:=by
 unfold nameB;simp only[aaK,abi,Bool.not_eq_true',<-Array.all_toList,<-Array.any_toList,abR,abG,acB];constructor
 ·rintro⟨e,o,⟨d,f⟩,⟨v,p,q⟩,r⟩;refine⟨d,e,λc a=>?_⟩;have j:c<128:=o c a;obtain⟨l,s,m,n⟩:=uni c j;have g:=f c a;have h:=r c a;rw[l]at g;rw[m,n]at h;simp at g h;omega
 ·rintro⟨d,e,i⟩;have b:∀c∈x.cps.toList,c<128/\97<=c/\c<=122:=λc a=>⟨by have:=i c a;omega,i c a⟩;refine⟨e,λc a=>(b c a).1,⟨d,λc a=>?_⟩,?_,λc a=>?_⟩
  ·rw[(uni c (b c a).1).1];simp[(b c a).2]
  ·rw[Ca]at d;obtain⟨c,a⟩:=List.exists_mem_of_length_pos (show 0<x.cps.toList.length by omega);exact⟨c,a,by rw[(uni c (b c a).1).2.1];simp[(b c a).2]⟩
  ·rw[(uni c (b c a).1).2.2.1,(uni c (b c a).1).2.2.2];have:=(b c a).2;simp;omega
structure sJ(mg:Y1):Prop where
 ml:∃t,mg "MOST_LETTERS"=some (.int 8 t)
 mf:∃t,mg "MOST_FIELDS"=some (.int 4 t)
 lim:∃t,mg "LIMIT"=some (.int 999999 t)
section
variable{P:ZE}{w:ZH}{K:Zs}{mg:Y1}{base:ZN}
inductive pA(vs:List V)(H:Hp)(Q:VK)(E:XK):Prop
 |mk (x:Str):vs=[.str x]->x.length<=sizeLine->Q (.bl (nameB x)) H->pA vs H Q E
def Ym:du ["text"] ["text"] (b_ (top 26)):=by ext
def uT(F:ir K "is_name" "is_name" (top 26) f c)(T:Txt K mg)(TK:sJ mg):dm P w K mg base dU 1 f c ["text"] pA:=by
 refine F.ok Ym (by ext) λd A a s H vs Q E i h=>?_;obtain⟨x,rfl,e,k⟩:=h;obtain⟨j,g⟩:=TK.ml;refine⟨_,(d8 (dw (jf (iz jN (dD pF (by rfl) T.len gD (aK (pv 0) cZ)) (iB (v:=.int 8) rfl g ⟨_,rfl⟩) (dN _)) (jf (vK ab6 PySem.F.slot_str_isascii PySem.F.type_str_isascii zW (pv 0)) (jf (vK ab6 PySem.F.slot_str_isalpha PySem.F.type_str_isalpha Aq (pv 0)) (kJ (vK ab6 PySem.F.slot_str_islower PySem.F.type_str_islower zb (pv 0)))))))),?_⟩
 try dsimp only[jr]
 refine⟨_,rfl,x,rfl,e,_,_,rfl,rfl,_,rfl,?_⟩;unfold nameB at k;by_cases b:x.length<=8
 ·refine j5 (by simp;omega) ⟨_,rfl,rfl,x,rfl,rfl,_,rfl,?_⟩;rw[aa1 b,abP]at k;cases h1:x.cps.all (·<128)with
  |false=>rw[h1]at k;exact gW h1 k
  | true=>
    rw[h1,abP]at k;refine j5 h1 ⟨_,rfl,rfl,x,rfl,rfl,_,rfl,?_⟩;cases h2:(x.length >0&&x.cps.all Unicode.isAlpha)with
    |false=>rw[h2]at k;exact gW h2 k
    | true=>rw[h2,abP]at k;exact j5 h2 ⟨_,rfl,rfl,x,rfl,rfl,k⟩
 ·refine gW (by simp;omega) ?_;rw[aaR b,abS]at k;exact k
inductive lF(vs:List V)(H:Hp)(Q:VK)(E:XK):Prop
 |mk (x:Str):vs=[.str x]->Nm x->Q .non H->lF vs H Q E
def Xj:du ["text"] ["text"] (b_ (top 27)):=by ext
def nJ(F:ir K "need_name" "need_name" (top 27) f d)(T:Txt K mg)(TK:sJ mg)(e:gq K mg "is_name" (top 26) ["text"] c a):dm P w K mg base dU 2 f d ["text"] lF:=by
 have j:dm P w K mg base dU 1 c a ["text"] pA:=uT e.F T TK;refine F.ok Xj (by ext) λg A b s H vs Q E i h=>?_;obtain⟨x,rfl,nm,k⟩:=h;refine⟨_,(d8 (eX (jm (iT (iJ e j i (aK (pv 0) cZ)))) (d8 gj) dI)),?_⟩
 try dsimp only[jr]
 refine⟨_,rfl,x,rfl,aag nm.hi (by decide),_,rfl,?_⟩;rw[(mH x).mpr nm];exact gW rfl k
inductive mW(vs:List V)(H:Hp)(Q:VK)(E:XK):Prop
 |mk (a:Zl) (xs:List V) (fs:List ji):vs=[.ref a]->H a=some (.tup xs)->Paired (jG H) xs fs->fs.length<=60->(∀f∈fs,nU f)->(fs.map (·.1)).Nodup->(∀H',di H H'->Q .non H')->mW vs H Q E
theorem jA{a c:Type}{F:a->c->Prop}:∀{b:List a}{ys:List c}{i:Nat}{x:a},Paired F b ys->b[i]?=some x->∃y,ys[i]?=some y/\F x y
 |_,_,_,_,.nil,e=>by simp at e
 |_,_,0,_,.cons r _,e=>by simp at e;subst e;exact⟨_,rfl,r⟩
 | _,_,i+1,x,.cons _ t,e=>by obtain⟨y,d,f⟩:=jA (i:=i) (x:=x) t (by simpa using e);exact⟨y,by simpa using d,f⟩
def Ii:du ["fields","seen","name","low","high"] ["fields"] (b_ (top 28)):=by ext
def uc(F:ir K "need_fields" "need_fields" (top 28) f W)(T:Txt K mg)(z:sJ mg)(DI:gq K mg "is_name" (top 26) ["text"] fI N)(X:gq K mg "need_name" (top 27) ["text"] U r):dm P w K mg base dU 3 f W ["fields"] mW:=by
 have GN:dm P w K mg base dU 2 U r ["text"] lF:=nJ X.F T z DI;refine F.ok Ii (by ext) λY A I s H vs Q E Z h=>?_;obtain⟨a,L,fs,rfl,ha,R,hl,hf,nd,k⟩:=h;obtain⟨tl,S⟩:=z.lim;refine⟨_,(bK (jj 1 Ii.nd (gC cZ)) (d8 (j6 aaO rfl (kY (pv 0)) (iy rfl (dJ (jP 2 Ii.nd) (dJ (jP 3 Ii.nd) (dJ (jP 4 Ii.nd) gP)))) (bK (fc (iJ X GN Z (aK (pv 2) cZ))) (bK (eX (dM mJ (pv 2) (pv 1) rfl) (d8 gj) dI) (bK (eX (jm (CG jN jN jN (oh lV (iB (v:=.int 999999) rfl S ⟨_,rfl⟩)) (pv 3) (pv 4) (iB (v:=.int 999999) rfl S ⟨_,rfl⟩))) (d8 gj) dI) (d8 (fc (lE aaZ aa3 aa8 j4 (pv 1) (aK (pv 2) cZ)))))))))),?_⟩
 try dsimp only[jr]
 refine⟨(by ext),λq J=>?_⟩;have pl:=aaV R;have m:∀{O:Hp},di H O->O a=some (.tup L):=λe=>e _ _ ha;refine⟨_,rfl,a,rfl,⟨_,gf.of (m (di.new J))⟩,iW (xs:=L) (λi B l=>∃(b c d:Option V),B=[some (.ref a),some (.ref q),b,c,d]/\l q=some (.lst (((fs.map (·.1)).take i).map V.str))/\di H l) ⟨none,none,none,rfl,by rw[a_];simp,di.new J⟩ (λi B l _⟨_,_,_,_,_,e⟩=>gf.of (m e)) ?_ ?_⟩
 ·rintro i x B l hi⟨b,c,d,rfl,D,G⟩;obtain⟨⟨n,lo,ab⟩,g,b',rfl,hb⟩:=jA R hi;have C:=hf _ (aaj g);have aa:i<fs.length:=(aar.mp g).1;refine⟨b',_,rfl,gf.of (G _ _ hb),rfl,_,_,rfl,_,_,rfl,_,_,rfl,rfl,?_⟩;refine⟨_,rfl,n,rfl,C.nm,?_⟩;have p:n∉(fs.map (·.1)).take i:=by
   intro hm;have h1:(fs.map (·.1))[i]?=some n:=by rw[aao,g];rfl
   obtain⟨j,hj,e⟩:=List.getElem_of_mem hm;rw[aaS]at hj;rw[List.getElem_take]at e;have h2:(fs.map (·.1))[j]?=some n:=by rw[aaz (by omega),e]
   have:=tL nd h1 h2;omega
  refine⟨_,rfl,_,rfl,q,_,rfl,.inl (fj.of D),rfl,?_,_,rfl,?_⟩
  ·rw[abR];intro v hv;obtain⟨y,_,rfl⟩:=aap.mp hv;rfl
  refine gW ?_ ?_
  ·show inV (.str n) _=false;unfold inV;rw[List.any_map,acB];intro y hy M;have:y=n:=by simpa[zm]using M
   exact p (this▸hy)
  have f1:=C.lo;have f2:=C.le;have f3:=C.hi;refine⟨_,rfl,_,rfl,_,_,rfl,rfl,_,rfl,j5 (by simpa using f1) ?_⟩;refine⟨_,rfl,_,_,rfl,rfl,_,rfl,j5 (by simpa using f2) ?_⟩;refine⟨_,_,rfl,rfl,_,rfl,gW (by simpa using f3) ?_⟩;have lt:((fs.map (·.1)).take i).length<=60:=by rw[aaS,aad];omega
  refine⟨_,rfl,.inl ⟨rfl,_,fj.of D⟩,_,rfl,q,_,_,rfl,rfl,D,by rw[aad];exact nW (by omega),?_⟩;refine⟨_,_,_,rfl,?_,λc o e=>by rw[c7 (dg e J)];exact G c o e⟩;rw[a_,aaT,aao,g];simp
 ·rintro B l⟨b,c,d,rfl,D,G⟩;exact k l G
end
structure uq(K:Zs)(x qual:Str)(st:Stmt)(dV:ZI)(f:Zl)(fd:ZB):Prop where
 ex:∃(oc:ZI)(od:YE)(kV doc pm:ZI)(an:YE)(cdv ct:ZI)(osl:YV),
  fd=PySem.W.fnOf x qual (eG st) (d_ st) (b_ st) dV kV doc pm an cdv ct/\K.lookup f=some ⟨oc,od,.func fd,osl⟩/\PySem.W.codeIn K cdv qual=true
 kp:PySem.W.keepIn K (.ref f)=true
section
variable{P:ZE}{w:ZH}{K:Zs}{mg:Y1}{base:ZN}
def uq.ok(F:uq K x b e y f m)(S:du N j (b_ e))(len:∀vs H Q E,l vs H Q E->vs.length=j.length)
 (d:∀(c:ZI)(A:ZO)(a:List Env)(s:Zp)(H:Hp)(vs:List V)(Q:VK)(E:XK),eZ k (A.deeper (PyProof.Rows.envOfC b (b_ e) s.heap.objs.size f c))->l vs H Q E->∃t,Dq (jr dU P w K mg base N b (b_ e) f c A a s H E).nox (d_ e) t/\t {nx:=λ_ n=>Q .non n,rt:=Q} (L2.start N vs) H):dm P w K mg base dU (k+1) f m j l:=by
 obtain⟨oc,od,kV,p,z,an,c,B,r,rfl,v,i⟩:=F.ex;refine Ng v i S len λA a s H vs Q E o g=>?_;obtain⟨t,h,q⟩:=d c A a s H vs Q E o g;exact⟨t,h.nox,q⟩
def uq.binds(F:uq K x a g (.ref T) f m)(r:K.lookup T=some l)(hd:l.data=.seq d n)
 (h:∀(kV b i:ZI)(an:YE)(c j:ZI)(s:Zp)(e:Y3),s.heap.get? T=some l->(e++ds).length=ps.length->BindsTo s (PySem.W.fnOf x a (eG g) (d_ g) (b_ g) (.ref T) kV b i an c j) ⟨e,[]⟩ (ps.zip (e++ds))):Binds K m ps ds:=by
 obtain⟨oc,od,kV,b,i,an,c,j,p,rfl,v,q⟩:=F.ex;exactλs e X o=>h kV b i an c j s e (X _ _ r) o
abbrev xn:Stmt:=inClass (top 30) 0
theorem G9(hd:g.data=.seq #[i] n)(kV e j:ZI)(an:YE)(f l:ZI)(s:Zp)(d:Y3)(m:s.heap.get? T=some g)(h:(d++[]).length=(["self","name","fields"]:Y2).length):
 BindsTo s (PySem.W.fnOf "__init__" "Kind.__init__" (eG xn) (d_ xn) (b_ xn) (.ref T) kV e j an f l) ⟨d,[]⟩ ((["self","name","fields"]:Y2).zip (d++[])):=by
 rw[aaQ]at h|-
 match d,h with
 |[a,b,c],_=>exact acT rfl m hd rfl rfl
structure KCls(K:Zs)(mg:Y1)(C:Zl):Prop where
 cl:vh K C
 nN:g8 K C "name"
 nF:g8 K C "fields"
 mg:mg "Kind"=some (.ref C)
def nf:¬(("name":Str)="fields"):=by ext
noncomputable def kf(n:Str)(a:Zl):List (Str×V):=gJ "fields" (.ref a) (gJ "name" (.str n) [])
def vQ(n:Str)(a:Zl):(kf n a).lookup ("name":Str)=some (.str n):=by unfold kf;rw[jg,aab nf,jg,aac rfl]
def kE(n:Str)(a:Zl):(kf n a).lookup ("fields":Str)=some (.ref a):=by unfold kf;rw[jg,aac rfl]
def sY(n:Str)(a:Zl){m:Str}(b:¬m="fields")(c:¬m="name"):(kf n a).lookup m=none:=by unfold kf;rw[jg,aab b,jg,aab c];rfl
structure gZ(C:Zl)(H:Hp)(o:Zl)(n:Str)(a:Zl)(fs:List ji):Prop where
 ob:∃dx,H o=some (.ins C dx (kf n a))
 tp:∃xs,H a=some (.tup xs)/\Paired (jG H) xs fs
inductive v_(C:Zl)(vs:List V)(H:Hp)(Q:VK)(E:XK):Prop
 |mk (o dx a:Zl) (n:Str) (xs:List V) (fs:List ji):vs=[.ref o,.str n,.ref a]->H o=some (.ins C dx [])->Nm n->H a=some (.tup xs)->Paired (jG H) xs fs->fs.length<=4->(∀f∈fs,nU f)->(fs.map (·.1)).Nodup->(∀H',gZ C H' o n a fs->(∀b u,H b=some u->b≠o->H' b=some u)->Q .non H')->v_ C vs H Q E
def Xa:du ["self","name","fields"] ["self","name","fields"] (b_ xn):=by ext
def JQ(F:uq K "__init__" "Kind.__init__" xn dV f R)(T:Txt K mg)(c:sJ mg)(p:KCls K mg C)(S:gq K mg "is_name" (top 26) ["text"] fI G)(I:gq K mg "need_name" (top 27) ["text"] N l)
 (U:gq K mg "need_fields" (top 28) ["fields"] O m):dm P w K mg base dU 4 f R ["self","name","fields"] (v_ C):=by
 have X:dm P w K mg base dU 2 N l ["text"] lF:=nJ I.F T c S;have Y:dm P w K mg base dU 3 O m ["fields"] mW:=uc U.F T c S I;refine F.ok Xa (by ext) λW A q s H vs Q E J h=>?_;obtain⟨o,g,a,n,i,fs,rfl,B,Z,j,D,hl,hf,nd,k⟩:=h;obtain⟨tf,mf⟩:=c.mf;have x:eZ 2 _:=J.mono (by decide);have pl:=aaV D;refine⟨_,(bK (fc (iJ I X x (aK (pv 1) cZ))) (bK (eX (dM yI (dD dO (by rfl) T.len gD (aK (pv 2) cZ)) (iB (v:=.int 4) rfl mf ⟨_,rfl⟩) (dN _)) (d8 gj) dI) (bK (fc (iJ U Y J (aK (pv 2) cZ))) (bK (dY (pv 0) (pv 1) rfl) (d8 (dY (pv 0) (jJ jn (by rfl) T.tuple jE (aK (pv 2) cZ)) rfl)))))),?_⟩
 try dsimp only[jr]
 refine⟨_,rfl,n,rfl,Z,?_⟩;refine⟨_,rfl,a,i,rfl,.inr (gf.of j),_,_,rfl,rfl,_,rfl,gW (by simp;omega) ?_⟩;refine⟨_,rfl,a,i,fs,rfl,j,D,by omega,hf,nd,λL r=>?_⟩;refine⟨_,rfl,_,rfl,o,C,g,[],rfl,r _ _ B,p.cl,p.nN,(show 0<1000 by decide),?_⟩;have d:a≠o:=j9 j B (by intro z;cases z);have y:∀u,(upd L o u) a=some (.tup i):=λu=>by rw[c7 d];exact r _ _ j
 refine⟨_,rfl,a,i,rfl,.inr ⟨gf.of (y _),?_⟩⟩;refine⟨_,rfl,o,C,g,_,rfl,a_,p.cl,p.nF,(show 1<1000 by decide),?_⟩;have keep:∀b u,H b=some u->b≠o->(upd (upd L o (.ins C g (gJ "name" (.str n) []))) o (.ins C g (kf n a))) b=some u:=λb u e M=>by rw[c7 M,c7 M];exact r _ _ e
 refine k _ ⟨⟨g,a_⟩,i,keep a _ j d,j7 D λb ys e=>keep b _ e (j9 e B (by intro z;cases z))⟩ keep
end
def gZ.same(h:gZ C H o n a fs)(e:di H c):gZ C c o n a fs:=by obtain⟨⟨d,f⟩,g,i,j⟩:=h;exact⟨⟨d,e _ _ f⟩,g,e _ _ i,j7 j λb ys z=>e _ _ z⟩
noncomputable def Rq(K:Zs):TG:=Fp K 3 (oE (eN 0) (oE (eN 1) (oE (eN 2) J3)))
def ut(y:H a=some (.tup j))(p:Paired (jG H) j fs)(C:fs.length<=60)(z:e=[none,none,none])(c:ji->V)
 (l:∀f∈fs,∀Q:VK,Q (c f) H->o [some (.str f.1),some (.int f.2.1),some (.int f.2.2)] H Q)(A:F (fs.map c) H):
 ∃W:Nat->Nat->List V->St->Hp->Prop,(∃m,W 0 m [] e H)/\rO (Y0 K a) (Rq K) qm o F W:=by
 have B:=aaV p;refine iY (xs:=j) (λi ys g h=>ys=(fs.take i).map c/\(∃u v w,g=[u,v,w])/\h=H) (aag (by omega) (show 60<=sizeLine by decide)) ⟨by simp,⟨_,_,_,z⟩,rfl⟩ ?_ ?_ ?_
 ·rintro i ys g h _⟨_,_,rfl⟩;exact gf.of y
 ·rintro i x ys g h r d⟨rfl,⟨u,v,w,rfl⟩,rfl⟩N s;obtain⟨f,n,b,rfl,q⟩:=jA p r;refine⟨b,_,rfl,gf.of q,rfl,_,_,rfl,_,_,rfl,_,_,rfl,rfl,?_⟩;refine l f (aaj n) _ (s _ _ _ (by simpa using d) ⟨?_,⟨_,_,_,rfl⟩,rfl⟩);rw[aaT,n];simp
 ·rintro ys g h d⟨rfl,_,rfl⟩;rw[abd (by omega)];exact A
noncomputable def Em(f:ji):Str:=((((f.1++(" ":Str))++Str.ofString (toString f.2.1))++("..":Str))++Str.ofString (toString f.2.2))
noncomputable def JF(fs:List ji):Str:=Txt.join (", ":Str) (fs.map Em)
def qM(d:-999999<=i)(f:i<=999999):(Str.ofString (toString i)).length<=8/\i.natAbs.log2<1920:=by
 constructor
 ·have:=int_text_length_le10 (a:=i) (k:=6) (by decide) (by omega);have e:(Str.ofString (toString i)).length=(toString i).length:=ofString_length _;omega
 ·have c:i.natAbs<2 ^ 20:=by omega
  by_cases b:i.natAbs=0
  ·rw[b];decide
  ·exact Nat.lt_trans ((Nat.log2_lt b).mpr c) (by decide)
def xj(h:nU f):(Em f).length<=40:=by have c:=(qM h.lo (ab7 h.le h.hi)).1;have d:=(qM (ab7 h.lo h.le) h.hi).1;have e:=h.nm.hi;have a:((" ":Str)).length=1:=rfl;have b:(("..":Str)).length=2:=rfl;unfold Em;simp only[abO,a,b];omega
section
variable{P:ZE}{w:ZH}{K:Zs}{mg:Y1}{base:ZN}
inductive xQ(vs:List V)(H:Hp)(Q:VK)(E:XK):Prop
 |mk (a:Zl) (xs:List V) (fs:List ji):vs=[.ref a]->H a=some (.tup xs)->Paired (jG H) xs fs->fs.length<=4->(∀f∈fs,nU f)->(∀H',di H H'->Q (.str (JF fs)) H')->xQ vs H Q E
def Xh:du ["fields"] ["fields"] (b_ (top 29)):=by ext
def RC:List.Nodup (["name","low","high"]:Y2):=by ext
def RD(F:ir K "bounds_text" "bounds_text" (top 29) f v)(T:Txt K mg):dm P w K mg base dU 1 f v ["fields"] xQ:=by
 refine F.ok Xh (by ext) λx A d s H vs Q E J h=>?_;obtain⟨a,G,fs,rfl,l,p,m,n,k⟩:=h;refine⟨_,(d8 (dw (lE ab6 PySem.F.slot_str_join PySem.F.type_str_join BL dC (aK (jb (g:=Rq K) (own:=["name","low","high"]) (js:=[]) (N':=["name","low","high"]) (dX.of (osc:=b_ (top 29)) (N:=["fields"]) rfl rfl (by ext)) rfl (kY (pv 0)) (λ_ _ _ _ _=>(iy rfl (dJ (fZ (i:=0) RC rfl (.inl rfl) (.inr rfl)) (dJ (fZ (i:=1) RC rfl (.inl rfl) (.inr rfl)) (dJ (fZ (i:=2) RC rfl (.inl rfl) (.inr rfl)) gP))))) (λ_ _ _ _ _=>gF) (λ_ _ _ _ _=>(M9 (zg (pv 0) (Io (zg (pv 1) (Io (zg (pv 2) PJ)))))))) cZ)))),?_⟩;refine⟨rfl,_,rfl,a,rfl,⟨G,gf.of l⟩,ut l p (by omega) rfl (λf=>.str (Em f)) (λf e Q q=>?_) ?_⟩
 ·have b:=n f e;have B:=qM b.lo (ab7 b.le b.hi);have C:=qM (ab7 b.lo b.le) b.hi;have L:=b.nm.hi;have M:=xj b;have big:40<=sizeLine:=by decide
  have j:((" ":Str)).length=1:=rfl;have D:(("..":Str)).length=2:=rfl;refine⟨_,rfl,f.1,.inl ⟨rfl,by omega⟩,?_,?_,_,rfl,_,.inr ⟨_,rfl,B.2,rfl⟩,?_,?_,_,rfl,_,.inr ⟨_,rfl,C.2,rfl⟩,?_,?_,?_⟩
  all_goals(try rw[Str.empty_append])
  all_goals(try(first|omega|(simp only[abO,j,D];omega)))
  try exact q
 ·have c:fs.length<=sizeLine:=aag m (by decide);refine⟨by rw[aad];exact c,λq y=>?_⟩;have o:((fs.map Em).map (·.length)).sum<=fs.length*40:=by
   clear c p l k m;induction fs with
   |nil=>simp
   | cons f r I=>rw[aat,aat,abx,aav,Nat.succ_mul];have:=xj (n f (by simp));have:=I λg z=>n g (by simp[z]);omega
  have j:(", ":Str).length=2:=rfl;refine⟨_,q,fs.map Em,rfl,rfl,fj.of (by rw[a_,aby];rfl),?_,k _ (di.new y)⟩;rw[aad,j];have:fs.length*40<=4*40:=acU _ m;omega
abbrev kM(j:Nat):Stmt:=inClass (top 30) j
inductive tH(C:Zl)(vs:List V)(H:Hp)(Q:VK)(E:XK):Prop
 |mk (o a:Zl) (n:Str) (fs:List ji):vs=[.ref o]->gZ C H o n a fs->fs.length<=4->(∀p H',H' p=some (.tup (fs.map λf=>.int f.2.1))->di H H'->Q (.ref p) H')->tH C vs H Q E
def Zw:du ["self"] ["self"] (b_ (kM 1)):=by ext
def CV(F:ir K "lowest" "Kind.lowest" (kM 1) f d)(T:Txt K mg)(e:KCls K mg C):dm P w K mg base dU 1 f d ["self"] (tH C):=by refine F.ok Zw (by ext) λj A b s H vs Q E B h=>?_;obtain⟨o,a,n,fs,rfl,⟨⟨r,v⟩,x,c,y⟩,z,k⟩:=h;refine⟨_,(d8 (dw (jJ jn (by rfl) T.tuple jE (aK (jb (g:=Rq K) (own:=["name","low","high"]) (js:=[]) (N':=["name","low","high"]) (dX.of (osc:=b_ (kM 1)) (N:=["self"]) rfl rfl (by ext)) rfl (kY (dq (pv 0) rfl)) (λ_ _ _ _ _=>(iy rfl (dJ (fZ (i:=0) RC rfl (.inl rfl) (.inr rfl)) (dJ (fZ (i:=1) RC rfl (.inl rfl) (.inr rfl)) (dJ (fZ (i:=2) RC rfl (.inl rfl) (.inr rfl)) gP))))) (λ_ _ _ _ _=>gF) (λ_ _ _ _ _=>(pv 1))) cZ)))),?_⟩;refine⟨_,rfl,o,C,r,_,_,rfl,v,e.cl,e.nF,kE n a,a,rfl,⟨x,gf.of c⟩,ut c y (by omega) rfl (λf=>.int f.2.1) (λf _ Q q=>⟨_,rfl,q⟩) ?_⟩;refine⟨by rw[aad];exact aag z (by decide),λq m=>?_⟩;exact⟨q,_,rfl,.inl ⟨fj.of a_,λl p=>k l _ a_ ((di.new m).trans (di.new p))⟩⟩
inductive qP(C:Zl)(vs:List V)(H:Hp)(Q:VK)(E:XK):Prop
 |mk (o a:Zl) (n:Str) (fs:List ji):vs=[.ref o]->gZ C H o n a fs->Q (.int (1+fs.length)) H->qP C vs H Q E
def XF:du ["self"] ["self"] (b_ (kM 2)):=by ext
def yV(F:ir K "cells" "Kind.cells" (kM 2) f c)(T:Txt K mg)(d:KCls K mg C):dm P w K mg base dU 1 f c ["self"] (qP C):=by refine F.ok XF (by ext) λe A b s H vs Q E p h=>?_;obtain⟨o,a,n,fs,rfl,⟨⟨g,i⟩,j,l,m⟩,k⟩:=h;refine⟨_,(d8 (dw (fX iI dh (dD dO (by rfl) T.len gD (aK (dq (pv 0) rfl) cZ))))),?_⟩;refine⟨_,rfl,o,C,g,_,_,rfl,i,d.cl,d.nF,kE n a,a,j,rfl,.inr (gf.of l),_,_,rfl,rfl,?_⟩;rw[aaV m];exact k
noncomputable def vL(fs:List ji)(x:Str):V:=if x∈fs.map (·.1)then .int ((fs.map (·.1)).idxOf x:Nat)else .non
inductive ww(C:Zl)(vs:List V)(H:Hp)(Q:VK)(E:XK):Prop
 |mk (o a:Zl) (n x:Str) (fs:List ji):vs=[.ref o,.str x]->gZ C H o n a fs->fs.length<=4->(∀H',di H H'->Q (vL fs x) H')->ww C vs H Q E
def GQ:du ["self","field","at","name","low","high"] ["self","field"] (b_ (kM 3)):=by ext
def HJ(F:ir K "place_of" "Kind.place_of" (kM 3) f S)(T:Txt K mg)(N:mg "enumerate"=none)(U:KCls K mg C):dm P w K mg base dU 1 f S ["self","field"] (ww C):=by
 refine F.ok GQ (by ext) λW A r s H vs Q E hr h=>?_;obtain⟨o,a,n,x,fs,rfl,⟨⟨dx,ho⟩,q,O,R⟩,hl,k⟩:=h;have pl:=aaV R;refine⟨_,(bK (j6 aaO rfl (J5 rfl N o_ (aK (dq (pv 0) rfl) cZ)) (iy rfl (dJ (jP 2 GQ.nd) (dJ (iy rfl (dJ (jP 3 GQ.nd) (dJ (jP 4 GQ.nd) (dJ (jP 5 GQ.nd) gP)))) gP))) (d8 (eX (dM gG (pv 3) (pv 1) (dN _)) (d8 (dw (pv 2))) dI))) (d8 (dw l_))),?_⟩
 try dsimp only[jr]
 refine⟨_,rfl,o,C,dx,_,_,rfl,ho,U.cl,U.nF,kE n a,a,rfl,⟨q,gf.of O⟩,Gq (xs:=q) (λi l d=>(∃v B D G,l=[some (.ref o),some (.str x),v,B,D,G])/\di H d/\x∉(fs.map (·.1)).take i) ⟨⟨none,none,none,none,rfl⟩,di.refl _,by simp⟩ (λi l d _ z=>gf.of (z.2.1 _ _ O)) ?_ ?_⟩
 ·rintro i y l d p hy⟨⟨v,B,D,G,rfl⟩,M,j⟩hp;obtain⟨⟨m,lo,hi⟩,L,b,rfl,hb⟩:=jA R hy;have I:di H (upd d p (.tup [.int i,.ref b])):=M.trans (di.new hp);refine⟨p,_,rfl,gf.of a_,rfl,_,_,rfl,_,_,rfl,b,_,rfl,gf.of (I _ _ hb),rfl,_,_,rfl,_,_,rfl,_,_,rfl,rfl,rfl,?_⟩;refine⟨_,rfl,_,rfl,rfl,_,rfl,?_⟩;have c:(fs.map (·.1))[i]?=some m:=by rw[aao,L];rfl
  by_cases e:m=x
  ·subst e;refine j5 (by simp) ⟨_,rfl,?_⟩;have g:m∈fs.map (·.1):=aaj c;have J:(fs.map (·.1)).idxOf m=i:=by
    have X:=(aar.mp c).1;have Y:¬(fs.map (·.1)).idxOf m<i:=λz=>j (by
     rw[aax];refine⟨(fs.map (·.1)).idxOf m,?_⟩;rw[List.getElem?_take,aac z,aaz (by omega),List.getElem_idxOf]);have Z:¬i<(fs.map (·.1)).idxOf m:=λz=>by
     have:=List.not_of_lt_findIdx (p:=(·==m)) (xs:=fs.map (·.1)) z;rw[(aar.mp c).2]at this;simp at this
    omega
   have:=k _ I;unfold vL at this;rw[aac g,J]at this;exact this
  ·refine gW (by simp[e]) ⟨⟨_,_,_,_,rfl⟩,I,?_⟩;rw[aaT,c];simp only[Option.toList_some,aak,aam,not_or];exact⟨j,λz=>e z.symm⟩
 ·rintro l d⟨⟨v,B,D,G,rfl⟩,M,j⟩;have:=k _ M;unfold vL at this;rw[abd (by rw[aad];omega)]at j;rw[aab j]at this;exact this
end
open PySem.W
theorem qp(h:di H a)(n:a e=none):H e=none:=by
 cases z:H e with
 |none=>rfl
 |some o=>have:=h _ _ z;rw[n]at this;cases this
abbrev Far:Int:=1000000000000000000000000000000
noncomputable def Kh(x:Str):Prop:=x.cps.all (·<128)=true
abbrev P_:Int:=Far+2
inductive TD:PyData->Prop
 |str {x:Str}:Kh x->x.length<=40->TD (.str x)
 |int {i:Int}:-P_<=i->i<=P_->TD (.int i)
 |nil:TD (.tuple [])
 |node {f:Str} {r:List PyData}:Kh f->f.length<=40->r.length<=4->(∀d∈r,TD d)->TD (.tuple (.str f::r))
noncomputable def oF:PyData->Bool
 |.str x=>nameB x
 |_=>false
noncomputable def z_:PyData->Bool
 |.int i=>decide (-999999<=i)&&decide (i<=999999)
 |_=>false
noncomputable def jY(f:Str)(r:List PyData):Bool:=
 if f="all"then r.isEmpty else if f="is"then (match r with|[x]=>oF x|_=>false)
 else decide (f="less"\/f="same")&&(match r with|[x,y]=>oF x&&z_ y|_=>false)
noncomputable def arity(f:Str):Option Nat:=if f="not"then some 1 else if f="and"then some 2 else if f="or"then some 2 else none
noncomputable def cnt:Nat->PyData->Nat
 |0,_=>0
 |n+1,.tuple (.str f::r)=>if jY f r=true then 1 else if arity f=some r.length then(if 0∈r.map (cnt n)then 0 else 1+(r.map (cnt n)).sum)else 0
 |_+1,_=>0
mutual
noncomputable def gK:PyData->Bool
 |.tuple (.str f::r)=>if f="and"\/f="or"then decide (r.length=2)&&shapes r else if f="not"then decide (r.length=1)&&shapes r else jY f r
 |_=>false
noncomputable def shapes:List PyData->Bool
 |[]=>true
 |d::r=>gK d&&shapes r
end
mutual
noncomputable def iD:PyData->Nat
 |.tuple (.str f::r)=>if(arity f).isSome=true then 1+jC r else 1
 |_=>1
noncomputable def jC:List PyData->Nat
 |[]=>0
 |d::r=>max (iD d) (jC r)
end
mutual
noncomputable def iH:PyData->Nat
 |.tuple (.str f::r)=>if(arity f).isSome=true then 1+jF r else 1
 |_=>1
noncomputable def jF:List PyData->Nat
 |[]=>0
 |d::r=>iH d+jF r
end
noncomputable def jx(d:PyData):Bool:=gK d&&(decide (iD d<=5)&&decide (iH d<=15))
def uO:∀d,1<=iH d:=by
 intro d;unfold iH;split
 ·split<;>omega
 ·omega
def lC:∀d,1<=iD d:=by
 intro d;unfold iD;split
 ·split<;>omega
 ·omega
def zO(h:jY f r=true):arity f=none:=by
 unfold jY at h;unfold arity;by_cases a:f="all"
 ·subst a;decide+kernel
 ·rw[aab a]at h;by_cases b:f="is"
  ·subst b;decide+kernel
  ·rw[aab b,aaK,abi]at h;rcases h.1 with rfl|rfl<;>decide+kernel
def u9(k:Nat)(r:List PyData):decide (some k=some r.length)=decide (r.length=k):=by simp only [Option.some.injEq,decide_eq_decide];exact ⟨λh=>h.symm,λh=>h.symm⟩
def lJ:gK (.tuple (.str f::r))=if arity f=none then jY f r else decide (arity f=some r.length)&&shapes r:=by
 unfold gK;by_cases a:f="and"
 ·subst a;rw [show arity "and"=some 2 from by ext,aac (.inl rfl),aab (show ¬(some 2=(none:Option Nat))from nofun),u9]
 ·by_cases b:f="or"
  ·subst b;rw [show arity "or"=some 2 from by ext,aac (.inr rfl),aab (show ¬(some 2=(none:Option Nat))from nofun),u9]
  ·rw [aab (by simp [a,b])];by_cases c:f="not"
   ·subst c;rw [show arity "not"=some 1 from by ext,aac rfl,aab (show ¬(some 1=(none:Option Nat))from nofun),u9]
   ·have d:arity f=none:=by unfold arity;rw [aab c,aab a,aab b]
    rw [d,aab c,aac rfl]
theorem Vq(g:∀d,cnt n d=if gK d=true/\iD d<=n then iH d else 0):∀r:List PyData,(if 0∈r.map (cnt n)then 0 else 1+(r.map (cnt n)).sum)=if shapes r=true/\jC r<=n then 1+jF r else 0
 |[]=>by simp[shapes,jC,jF]
 | d::r=>by
   have h:=Vq g r;have j:=uO d;rw[aat,abx];have c:shapes (d::r)=(gK d&&shapes r):=rfl;have f:jC (d::r)=max (iD d) (jC r):=rfl;have i:jF (d::r)=iH d+jF r:=rfl;by_cases hd:gK d=true/\iD d<=n
   ·have e:cnt n d=iH d:=by rw[g,aac hd]
    by_cases b:shapes r=true/\jC r<=n
    ·rw[aac b]at h;have a:¬0∈r.map (cnt n):=λz=>by rw[aac z]at h;omega
     rw[aab a]at h;rw[aab (by rw[aai,not_or,e];exact⟨by omega,a⟩),aac ⟨by rw[c,hd.1,b.1];rfl,by rw[f];omega⟩,e,i];omega
    ·rw[aab b]at h;have a:0∈r.map (cnt n):=by
      by_cases z:0∈r.map (cnt n)
      ·exact z
      ·rw[aab z]at h;omega
     rw[aac (aah _ a),aab];rintro⟨z1,z2⟩;rw[c,aaK]at z1;rw[f]at z2;exact b ⟨z1.2,by omega⟩
   ·have e:cnt n d=0:=by rw[g,aab hd]
    rw[aac (by rw[e];exact aal ..),aab];rintro⟨z1,z2⟩;rw[c,aaK]at z1;rw[f]at z2;exact hd ⟨z1.1,by omega⟩
theorem An:∀(n:Nat)(d:PyData),cnt n d=if gK d=true/\iD d<=n then iH d else 0
 | 0,d=>by have:=lC d;rw[aab (by omega)];rfl
 | n+1,d=>by
   have j:=An n;by_cases hd:∃f r,d=.tuple (.str f::r)
   ·obtain⟨f,r,rfl⟩:=hd;have h:cnt (n+1) (.tuple (.str f::r))=if jY f r=true then 1 else if arity f=some r.length then(if 0∈r.map (cnt n)then 0 else 1+(r.map (cnt n)).sum)else 0:=rfl
    have b:iD (.tuple (.str f::r))=if(arity f).isSome=true then 1+jC r else 1:=rfl
    have i:iH (.tuple (.str f::r))=if(arity f).isSome=true then 1+jF r else 1:=rfl
    have a:=@lJ f r;by_cases g:jY f r=true
    ·have e:=zO g;rw[e]at b i a;rw[h,aac g,aac ⟨by rw[a,aac rfl];exact g,by rw[b];simp⟩,i];rfl
    ·rw[h,aab g];by_cases e:arity f=none
     ·rw[aab (by rw[e];nofun),aab];rintro⟨q,_⟩;rw[a,aac e]at q;exact g q
     ·obtain⟨k,hk⟩:=Option.ne_none_iff_exists'.mp e;rw[hk]at b i a|-;rw[aab (show¬(some k=(none:Option Nat))from nofun)]at a;by_cases c:k=r.length
      ·subst c;rw[aac rfl,Vq j r];by_cases z:shapes r=true/\jC r<=n
       ·rw[aac z,aac ⟨by rw[a,z.1];simp,by rw[b];simp;omega⟩,i];rfl
       ·rw[aab z,aab];rintro⟨q1,q2⟩;rw[a]at q1;rw[b]at q2;simp at q1 q2;exact z ⟨q1,by omega⟩
      ·rw[aab (by simpa using c),aab];rintro⟨q,_⟩;rw[a]at q;simp[c]at q
   ·have h:cnt (n+1) d=0:=by
     unfold cnt;split
     ·omega
     ·exact absurd ⟨_,_,rfl⟩ hd
     ·rfl
    have b:gK d=false:=by
     unfold gK;split
     ·exact absurd ⟨_,_,rfl⟩ hd
     ·rfl
    rw[h,b,aab (by simp)]
def LR(d:PyData):(decide (1<=cnt 5 d)&&decide (cnt 5 d<=15))=jx d:=by
 have a:=uO d;rw [An];unfold jx;by_cases h:gK d=true/\iD d<=5
 ·rw [aac h,h.1,aa1 h.2];simp [a]
 ·rw [aab h];have:(gK d&&decide (iD d<=5))=false:=by rw [<-ab1,aaK,abi];exact h
  rw [<-Bool.and_assoc,this];rfl
section
variable{P:ZE}{w:ZH}{K:Zs}{mg:Y1}{base:ZN}
inductive PX(K:Zs)(vs:List V)(H:Hp)(Q:VK)(E:XK):Prop
 |mk (x:V) (d:PyData):vs=[x]->Rep K H x d->TD d->Q (.bl (oF d)) H->PX K vs H Q E
def Xr:du ["thing"] ["thing"] (b_ (top 69)):=by ext
theorem VJ(F:ir K "is_word" "is_word" (top 69) f m)(T:Txt K mg)(TK:sJ mg)(o:gq K mg "is_name" (top 26) ["text"] j c):dm P w K mg base dU 2 f m ["thing"] (PX K):=by
 have r:dm P w K mg base dU 1 j c ["text"] pA:=uT o.F T TK;refine F.ok Xr (by ext) λp A g s H vs Q E q h=>?_;obtain⟨x,d,rfl,e,v,k⟩:=h;refine⟨_,(d8 (dw (jf (dD ig (by rfl) T.isinstance eQ (aK (pv 0) (aK (jz rfl T.str Ao) cZ))) (kJ (iJ o r q (aK (pv 0) cZ)))))),?_⟩
 try dsimp only[jr]
 cases v with
 | @str y a l=>cases e;exact⟨_,rfl,_,_,_,_,rfl,.str y,rfl,_,rfl,j5 rfl ⟨_,rfl,y,rfl,aag l (by decide),k⟩⟩
 | @int i a b=>cases e;exact⟨_,rfl,_,_,_,_,rfl,.int i,rfl,_,rfl,gW rfl k⟩
 |nil=>exact⟨_,rfl,_,_,_,_,rfl,e,rfl,_,rfl,gW rfl k⟩
 |node a l n z=>exact⟨_,rfl,_,_,_,_,rfl,e,rfl,_,rfl,gW rfl k⟩
inductive Oc(K:Zs)(vs:List V)(H:Hp)(Q:VK)(E:XK):Prop
 |mk (x:V) (d:PyData):vs=[x]->Rep K H x d->TD d->Q (.bl (z_ d)) H->Oc K vs H Q E
def X6:du ["thing"] ["thing"] (b_ (top 70)):=by ext
theorem Sg(F:ir K "is_number" "is_number" (top 70) f j)(T:Txt K mg)(TK:sJ mg):dm P w K mg base dU 1 f j ["thing"] (Oc K):=by
 refine F.ok X6 (by ext) λm A e s H vs Q E p h=>?_;obtain⟨x,d,rfl,c,o,k⟩:=h;obtain⟨q,g⟩:=TK.lim;refine⟨_,(d8 (dw (jf (dD ig (by rfl) T.isinstance eQ (aK (pv 0) (aK (jz rfl T.int pZ) cZ))) (jf (Af (dD ig (by rfl) T.isinstance eQ (aK (pv 0) (aK (jz rfl T.bool pI) cZ)))) (kJ (yN jN jN (oh lV (iB (v:=.int 999999) rfl g ⟨_,rfl⟩)) (pv 0) (iB (v:=.int 999999) rfl g ⟨_,rfl⟩))))))),?_⟩
 try dsimp only[jr]
 cases o with
 | @int i a b=>cases c;refine⟨_,rfl,_,_,_,_,rfl,.int i,rfl,_,rfl,j5 rfl ⟨_,rfl,_,_,_,_,rfl,.int i,rfl,_,rfl,_,rfl,j5 rfl ?_⟩⟩;exact nZ.chain (nZ.neg nZ.con) (nZ.var rfl) nZ.con Bo.i0 Bo.i0 _ k
 | @str y a l=>cases c;exact⟨_,rfl,_,_,_,_,rfl,.str y,rfl,_,rfl,gW rfl k⟩
 |nil=>exact⟨_,rfl,_,_,_,_,rfl,c,rfl,_,rfl,gW rfl k⟩
 |node a l n z=>exact⟨_,rfl,_,_,_,_,rfl,c,rfl,_,rfl,gW rfl k⟩
noncomputable abbrev dW:List (Str×PyData):=[("not",.int 1),("and",.int 2),("or",.int 2)]
noncomputable abbrev dS:List (Str×PyData):=[("less",.str "<"),("same",.str "=")]
structure Rn(K:Zs)(mg:Y1)(aW aS:Zl):Prop where
 mw:mg "WITHIN"=some (.ref aW)
 ms:mg "SIGN_OF"=some (.ref aS)
 kw:Dw K aW dW
 ks:Dw K aS dS
def U6(f:Str):qe dW f=(arity f).map λn=>V.int (n:Nat):=by
 unfold qe arity;show((if _ then _ else if _ then _ else if _ then _ else none:Option PyData)).map Wg=_;by_cases a:f="not"
 ·subst a;rfl
 ·by_cases b:f="and"
  ·subst b;rfl
  ·by_cases c:f="or"
   ·subst c;rfl
   ·simp[a,b,c]
def RV(f:Str):qe dS f=if f="less"then some (.str "<")else if f="same"then some (.str "=")else none:=by
 unfold qe;show((if _ then _ else if _ then _ else none:Option PyData)).map Wg=_;by_cases a:f="less"
 ·subst a;rfl
 ·by_cases b:f="same"
  ·subst b;rfl
  ·simp[a,b]
inductive Q7(K:Zs)(vs:List V)(H:Hp)(Q:VK)(E:XK):Prop
 |mk (a:Zl) (f:Str) (r:List PyData):vs=[.ref a]->Rep K H (.ref a) (.tuple (.str f::r))->TD (.tuple (.str f::r))->Q (.bl (jY f r)) H->Q7 K vs H Q E
def Ug:du ["test","form"] ["test"] (b_ (top 71)):=by ext
theorem U_ (F:ir K "is_leaf" "is_leaf" (top 71) f N) (T:Txt K mg) (TK:sJ mg) (TB:Rn K mg aW C) (DI:gq K mg "is_name" (top 26) ["text"] Z D) (G:gq K mg "is_word" (top 69) ["thing"] L g) (O:gq K mg "is_number" (top 70) ["thing"] M i):dm P w K mg base dU 3 f N ["test"] (Q7 K):=by
 have I:dm P w K mg base dU 2 L g ["thing"] (PX K):=VJ G.F T TK DI;have S:dm P w K mg base dU 1 M i ["thing"] (Oc K):=Sg O.F T TK;refine F.ok Ug (by ext) λ R A n s H vs Q E o h=>?_;obtain ⟨a,f,r,rfl,U,W,k⟩:=h;have q:eZ 1 _:=o.mono (by decide);refine ⟨_,(bK (jj 1 Ug.nd (dZ eU (pv 0) dh)) (bK (eX (dM gG (pv 1) dC (dN _)) (d8 (dw (iz gG (dD dO (by rfl) T.len gD (aK (pv 0) cZ)) dh (dN _)))) dI) (bK (eX (dM gG (pv 1) dC (dN _)) (d8 (dw (jf (iz gG (dD dO (by rfl) T.len gD (aK (pv 0) cZ)) dh (dN _)) (kJ (iJ G I o (aK (dZ eU (pv 0) dh) cZ)))))) dI) (d8 (dw (jf (iz Iv (pv 1) (iB (v:=.ref C) rfl TB.ms rfl) rfl) (jf (iz gG (dD dO (by rfl) T.len gD (aK (pv 0) cZ)) dh (dN _)) (jf (iJ G I o (aK (dZ eU (pv 0) dh) cZ)) (kJ (iJ O S q (aK (dZ eU (pv 0) dh) cZ))))))))))),?_⟩
 try dsimp only [jr]
 cases W with
 |node af lf nr tr=>
 cases U with
 |@tup _ Y _ c J=>
 obtain ⟨p,ys,rfl⟩:∃ p ys,Y=p::ys:=by cases J;exact ⟨_,_,rfl⟩
 obtain ⟨X,x⟩:Rep K H p (.str f)/\gn K H ys r:=by cases J with|cons a b=>exact ⟨a,b⟩
 cases X;have l:=x.length;refine ⟨_,rfl,a,_,_,_,rfl,rfl,c,dz (j:=0) rfl,_,rfl,rfl,_,rfl,?_⟩;unfold jY at k;by_cases z:f = "all"
 ·subst z;rw [aac rfl] at k;refine j5 (by simp) ⟨_,rfl,a,_,rfl,.inr c,rfl,?_⟩;have e:decide (V.int ((V.str "all"::ys).length:Nat)=V.int 1)=r.isEmpty:=by
   rw [aba,abi,List.isEmpty_iff,aav,V.int.injEq];constructor
   ·intro h;exact List.length_eq_zero_iff.mp (by omega)
   ·rintro rfl;simp at l;simp [l]
  rw [e];exact k
 ·rw [aab z] at k;refine gW (by simp [z]) ⟨_,rfl,rfl,_,rfl,?_⟩;by_cases B:f = "is"
  ·subst B;rw [aac rfl] at k;refine j5 (by simp) ⟨_,rfl,a,_,rfl,.inr c,rfl,_,rfl,?_⟩
   match r,ys,x,k,l with
   |[],[],_,k,_=>exact gW (by simp) k
   |[d],[y],.cons ry .nil,k,_=>exact j5 (by simp) ⟨_,rfl,a,_,_,_,rfl,rfl,c,dz (j:=1) rfl,y,d,rfl,ry,tr d (aal ..),k⟩
   |_::_::_,_::_::_,_,k,_=>exact gW (by simp;omega) k
  ·rw [aab B] at k;refine gW (by simp [B]) ⟨_,rfl,f,C,dS,rfl,rfl,TB.ks,_,rfl,?_⟩;have e:(if false=true then !(qe dS f).isSome else (qe dS f).isSome)=decide (f = "less"∨f = "same"):=by
    rw [RV];by_cases q1:f = "less"
    ·simp [q1]
    ·by_cases q2:f = "same"
     ·rw [aab q1,aac q2];simp [q2]
     ·simp [q1,q2]
   rw [e];by_cases m:f = "less"∨f = "same"
   ·rw [aa1 m,abP] at k;refine j5 (by simp [m]) ⟨_,rfl,a,_,rfl,.inr c,rfl,_,rfl,?_⟩
    match r,ys,x,k,l with
    |[],[],_,k,_=>exact gW (by simp) k
    |[d],[y],_,k,_=>exact gW (by simp) k
    | [d,d2],[y,y2],.cons ry (.cons ry2 .nil),k,_=>
      refine j5 (by simp) ⟨_,rfl,a,_,_,_,rfl,rfl,c,dz (j:=1) rfl,y,d,rfl,ry,tr d (aal ..),_,rfl,?_⟩;have k:Q (.bl (oF d && z_ d2)) H:=k;cases hw:oF d with
      |false=>rw [hw] at k;exact gW rfl k
      | true=>rw [hw] at k;exact j5 rfl ⟨_,rfl,a,_,_,_,rfl,rfl,c,dz (j:=2) rfl,y2,d2,rfl,ry2,tr d2 (aah _ (aal ..)),k⟩
    |_::_::_::_,_::_::_::_,_,k,_=>exact gW (by simp;omega) k
   ·rw [aaR m,abS] at k;exact gW (by simp [m]) k
end
def ye(h:arity f=some k):1<=k/\k<=2:=by
 unfold arity at h;split at h
 ·cases h;omega
 ·split at h
  ·cases h;omega
  ·split at h
   ·cases h;omega
   ·cases h
set_option tactic.hygienic true in
theorem zF:∀(n:Nat)(d:PyData),cnt n d+1<=2 ^ n
 |0,_=>by simp[cnt]
 | n+1,d=>by
   have b:=zF n;have p:1<=2 ^ n:=Nat.one_le_two_pow;rw[Nat.pow_succ];by_cases hd:∃f r,d=.tuple (.str f::r)
   ·obtain⟨f,r,rfl⟩:=hd;show(if jY f r=true then 1 else if arity f=some r.length then(if 0∈r.map (cnt n)then 0 else 1+(r.map (cnt n)).sum)else 0)+1<=_;split
    ·omega
    ·split
     ·rename_i h;split
      ·omega
      ·have a:=ye h
       match r,a with
       |[x],_=>have:=b x;simp;omega
       |[x,y],_=>have:=b x;have:=b y;simp;omega
       |_::_::_::_,a=>simp at a
       |[],a=>simp at a
     ·omega
   ·have e:cnt (n+1) d=0:=by
     unfold cnt;split
     ·omega
     ·exact absurd ⟨_,_,rfl⟩ hd
     ·rfl
    omega
theorem xZ(g:PyData->Nat)(r:List PyData):(r.map λd=>((g d:Nat):Int)).sum=(((r.map g).sum:Nat):Int):=by
 induction r with
 |nil=>rfl
 |cons d r a=>rw[aat,aat,abx,abx,a];omega
section
variable{P:ZE}{w:ZH}{K:Zs}{mg:Y1}{base:ZN}
inductive Eb(K:Zs)(n:Nat)(vs:List V)(H:Hp)(Q:VK)(E:XK):Prop
 |mk (x:V) (d:PyData):vs=[x,.int (n:Nat)]->Rep K H x d->TD d->(∀H',di H H'->Q (.int (cnt n d:Nat)) H')->Eb K n vs H Q E
noncomputable abbrev Ze:List Str:=["thing","deep","counts"]
def VH:du Ze ["thing","deep"] (b_ (top 72)):=by ext
def zq:nT (x::a) (some 1) none=a:=by simp[nT,HT.jB]
theorem Vz (Z:gq K mg "count_parts" (top 72) ["thing","deep"] f M) (T:Txt K mg) (R:mg "sum" = none) (TK:sJ mg) (TB:Rn K mg aW aS) (DI:gq K mg "is_name" (top 26) ["text"] fI fdI) (DW:gq K mg "is_word" (top 69) ["thing"] fW fdW) (DN:gq K mg "is_number" (top 70) ["thing"] fN fdN)
 (DL:gq K mg "is_leaf" (top 71) ["test"] fL O) (n:Nat) (hn5:n≤20):dm P w K mg base dU (n+4) f M ["thing","deep"] (Eb K n):=by
 have GL:dm P w K mg base dU 3 fL O ["test"] (Q7 K):=U_ DL.F T TK TB DI DW DN;have z:∀ m k:Nat,m≤20->(∀ n,n+1=m->dm P w K mg base dU (n+4) f M ["thing","deep"] (Eb K n))->dm P w K mg base dU (m+4) f M ["thing","deep"] (Eb K m):=by
  intro m k0 hm GC;refine Z.F.ok VH (λ vs H Q E h=>?_) (λ aa A ab s H vs Q E hr h=>?_)
  ·obtain ⟨x,d,rfl,_⟩:=h;rfl
  ·obtain ⟨x,d,rfl,J,td,k⟩:=h;have ah:eZ 3 _:=hr.mono (by omega);have ai:dm P w K mg base dU (m+3) f M ["thing","deep"] (λ vs H Q E=>∃ n,n+1=m/\Eb K n vs H Q E):=by
    match m,GC with
    |0,_=>exact ⟨λ _ _ _ _ ⟨n,e,_⟩=>by omega,λ _ _ _ _ _ _ _ _ _ _ _ _ _ ⟨n,e,_⟩=>by omega⟩
    | m+1,GC=>have G:=GC m rfl;exact ⟨λ vs H Q E ⟨n,e,h⟩=>by cases e;exact G.1 vs H Q E h,λ a1 a2 a3 a4 a5 a6 a7 a8 a9 ac ad ae ag ⟨n,e,h⟩=>by cases e;exact G.2 a1 a2 a3 a4 a5 a6 a7 a8 a9 ac ad ae ag h⟩
   refine ⟨_,(bK (eX (PW.pt (uA (dM gG (pv 1) dh (dN _)) (uA (jm (iT (dD ig (by rfl) T.isinstance eQ (aK (pv 0) (aK (jz rfl T.tuple jE) cZ))))) (tR (dM gG (dD dO (by rfl) T.len gD (aK (pv 0) cZ)) dh (dN _)))))) (d8 (dw dh)) dI) (bK (eX (iT (iJ DL GL ah (aK (pv 0) cZ))) (d8 (dw dh)) dI) (bK (eX (dM uw (Es (iB (v:=.ref aW) rfl TB.mw rfl) (dZ eU (pv 0) dh) ⟨rfl,rfl,rfl,rfl⟩) (fX jR (dD dO (by rfl) T.len gD (aK (pv 0) cZ)) dh) (dN _)) (d8 (dw dh)) dI) (bK (jL (g:=eN 0) (i:=2) (own:=["part"]) (js:=[1]) (N':=["part","deep"]) (dX.of (osc:=b_ (top 72)) (N:=Ze) rfl rfl (by ext)) rfl VH.nd rfl rfl (kY (lA pL (pv 0) (mU dh) mR)) (λ _ _ _ _ _=>(fZ (i:=0) (show List.Nodup (["part","deep"]:Y2) by ext) rfl (.inl rfl) (.inr rfl))) (λ _ _ _ _ _=>gF) (λ _ _ _ _ _=>pG ai hr rfl Z.mg Z.F.kp Z.b .nil dR (aK (pv 0) (aK (fX jR (pv 1) dh) cZ)))) (d8 (dw (kO (dM mJ dh (pv 2) rfl) dh (fX iI dh (dD (p_ rfl) (by rfl) R Al (aK (pv 2) cZ)))))))))),?_⟩
   try dsimp only [jr]
   refine ⟨_,rfl,rfl,_,rfl,?_⟩;by_cases h0:m=0
   ·subst h0;exact j5 (by simp) (j5 rfl (k _ (di.refl _)))
   refine gW (by simp [h0]) ?_;obtain ⟨n,rfl⟩:∃ n,m=n+1:=⟨m-1,by omega⟩;cases td with
   |str a l=>cases J;exact ⟨_,rfl,_,_,_,_,rfl,.str _,rfl,_,rfl,j5 rfl (j5 rfl (k _ (di.refl _)))⟩
   |int a b=>cases J;exact ⟨_,rfl,_,_,_,_,rfl,.int _,rfl,_,rfl,j5 rfl (j5 rfl (k _ (di.refl _)))⟩
   | nil=>
     cases J with
     |@tup a xs _ C Y=>
     cases Y;exact ⟨_,rfl,_,_,_,_,rfl,.tup C .nil,rfl,_,rfl,gW rfl ⟨_,rfl,a,_,rfl,.inr C,rfl,_,rfl,j5 (by simp) (k _ (di.refl _))⟩⟩
   |@node f r af lf nr tr=>
   have I:=J;cases J with
   |@tup a xs _ C Y=>
   obtain ⟨x0,ys,rfl⟩:∃ x0 ys,xs=x0::ys:=by cases Y;exact ⟨_,_,rfl⟩
   obtain ⟨r0,rt⟩:Rep K H x0 (.str f)/\gn K H ys r:=by cases Y with|cons a b=>exact ⟨a,b⟩
   cases r0;have hl:=rt.length;refine ⟨_,rfl,_,_,_,_,rfl,I,rfl,_,rfl,gW rfl ⟨_,rfl,a,_,rfl,.inr C,rfl,_,rfl,gW (by simp;omega) ?_⟩⟩;refine ⟨_,rfl,a,f,r,rfl,I,.node af lf nr tr,_,rfl,?_⟩;have e1:cnt (n+1) (.tuple (.str f::r))=if jY f r=true then 1 else if arity f=some r.length then (if 0∈r.map (cnt n) then 0 else 1+(r.map (cnt n)).sum) else 0:=rfl
   rw [e1] at k;by_cases o:jY f r=true
   ·rw [aac o] at k;rw [o];exact j5 rfl (k _ (di.refl _))
   rw [aab o] at k;rw [Bool.eq_false_iff.mpr o];refine gW rfl ?_;refine ⟨aW,dW,rfl,TB.kw,_,rfl,a,_,_,_,rfl,rfl,C,dz (j:=0) rfl,f,rfl,_,rfl,a,_,rfl,.inr C,_,_,rfl,rfl,?_⟩;rw [U6];by_cases W:arity f=some r.length
   ·rw [aac W] at k;rw [W];refine ⟨rfl,_,rfl,gW (by simp;omega) ?_⟩;refine ⟨_,rfl,1,rfl,a,_,rfl,C,(λ e=>?_),λ p hp=>?_⟩
    ·rw [zq] at e;have:=aaB List.length e;simp at this
    ·rw [zq];have sp:gf K (upd H p (.tup ys)) p ys:=gf.of a_;have s1:di H (upd H p (.tup ys)):=di.new hp;generalize upd H p (.tup ys)=H1 at sp s1 ⊢;refine ⟨p,rfl,⟨_,sp⟩,?_⟩;refine iY (xs:=ys) (λ i S c H'=>(∃ v,c=[v,some (.int (n+1:Nat))])/\di H1 H'/\S=((r.take i).map λ d=>V.int (cnt n d:Nat))) (aag (show ys.length≤20 by omega) (by decide)) ⟨⟨none,rfl⟩,di.refl _,rfl⟩ (λ i S c H' _ ⟨_,D,_⟩=>D.tup sp) ?_ ?_
     ·rintro i y S c U hy L ⟨⟨v,rfl⟩,D,rfl⟩ N hN;obtain ⟨d,hd,ry⟩:=rt.get' hy;refine ⟨_,rfl,_,rfl,_,_,rfl,rfl,n,rfl,y,d,?_,ry.same (s1.trans D),tr d (aaj hd),λ H3 F=>?_⟩
      ·show [y,V.int ((n+1:Nat)-1)]=[y,V.int (n:Nat)];rw [show (((n+1:Nat):Int)-1)=(n:Nat) by omega]
      ·exact hN _ _ _ (by rw [aas,L];rfl) ⟨⟨_,rfl⟩,D.trans F,by rw [aaT,hd];simp⟩
     ·rintro S c U L ⟨⟨v,rfl⟩,D,rfl⟩;rw [abd (by omega)];have lr:(r.map λ d=>V.int (cnt n d:Nat)).length≤20:=by rw [aad];omega
      refine ⟨aag lr (by decide),λ q hq=>?_⟩;have F:di H (upd U q (.lst (r.map λ d=>V.int (cnt n d:Nat)))):=(s1.trans D).trans (di.new hq);have B:fj K (upd U q (.lst (r.map λ d=>V.int (cnt n d:Nat)))) q (r.map λ d=>V.int (cnt n d:Nat)):=fj.of a_;generalize upd U q (.lst (r.map λ d=>V.int (cnt n d:Nat)))=H3 at F B ⊢;refine ⟨_,rfl,q,_,rfl,.inl B,rfl,by simp [pB],_,rfl,?_⟩;have aj:(if false=true then !inV (.int 0) (r.map λ d=>V.int (cnt n d:Nat)) else inV (.int 0) (r.map λ d=>V.int (cnt n d:Nat)))=decide (0∈r.map (cnt n)):=by
       show inV (.int 0) (r.map λ d=>V.int (cnt n d:Nat))=_;rw [aba,abi];unfold inV;simp only [abG,aap];constructor
       ·rintro ⟨_,⟨d,hd,rfl⟩,he⟩;exact ⟨d,hd,by simpa [zm] using he⟩
       ·rintro ⟨d,hd,he⟩;exact ⟨_,⟨d,hd,rfl⟩,by simp [he,zm]⟩
      rw [aj];by_cases X:0∈r.map (cnt n)
      ·rw [aac X] at k;rw [aa1 X];exact j5 rfl (k _ F)
      ·rw [aab X] at k;rw [aaR X];refine gW rfl ?_;refine ⟨_,rfl,q,r.map λ d=>((cnt n d:Nat):Int),rfl,by rw [aby];exact B,by rw [aad];omega,λ x hx=>?_,_,_,rfl,rfl,?_⟩
       ·obtain ⟨d,_,rfl⟩:=aap.mp hx;have:=zF n d;have ak:2 ^ n≤2 ^ 20:=acV (by decide) (by omega);have:(2:Nat) ^ 20=1048576:=by decide
        omega
       ·have es:=xZ (cnt n) r;rw [es];have:=k _ F;rw [show ((1+(r.map (cnt n)).sum:Nat):Int)=1+(((r.map (cnt n)).sum:Nat):Int) by omega] at this;exact this
   ·rw [aab W] at k;cases hb:arity f with
    |none=>exact ⟨rfl,_,rfl,j5 rfl (k _ (di.refl _))⟩
    | some j=>refine ⟨rfl,_,rfl,j5 ?_ (k _ (di.refl _))⟩;have:¬ j=r.length:=λ e=>W (by rw [hb,e]);simp;omega
 induction n with
 |zero=>exact z 0 0 (by omega) (λ n e=>by omega)
 |succ n ih=>exact z (n+1) 0 hn5 (λ n' e=>by cases e;exact ih (by omega))
end
theorem rN:∀{r:List PyData}{d:PyData},shapes r=true->d∈r->gK d=true
 | e::r,d,h,m=>by
   have h:(gK e&&shapes r)=true:=h;rw[aaK]at h;rcases aai.mp m with rfl|m
   ·exact h.1
   ·exact rN h.2 m
theorem vo:∀{r:List PyData}{d:PyData},d∈r->iD d<=jC r
 | e::r,d,m=>by
   have h:jC (e::r)=max (iD e) (jC r):=rfl;rcases aai.mp m with rfl|m
   ·omega
   ·have:=vo m;omega
structure Node(n:Nat)(f:Str)(r:List PyData):Prop where
 ar:arity f=some r.length
 sh:∀d∈r,gK d=true
 de:∀d∈r,iD d<=n
def qO(h:gK (.tuple (.str f::r))=true)(hd:iD (.tuple (.str f::r))<=n+1):(arity f=none/\jY f r=true)\/Node n f r:=by
 rw[lJ]at h;by_cases a:arity f=none
 ·rw[aac a]at h;exact .inl ⟨a,h⟩
 ·rw[aab a,aaK,abi]at h;have e:iD (.tuple (.str f::r))=if(arity f).isSome=true then 1+jC r else 1:=rfl
  rw[h.1]at e;have e:iD (.tuple (.str f::r))=1+jC r:=e;exact .inr ⟨h.1,λd m=>rN h.2 m,λd m=>by have:=vo m;omega⟩
theorem ju(g:TD d)(h:gK d=true):∃f r,d=.tuple (.str f::r):=by
 cases g with
 |node a b c e=>exact⟨_,_,rfl⟩
 |_=>exact absurd h (by simp[gK])
def vD(h:gf K H a b)(c:H q=some (.lst ys)):gf K (upd H q o) a b:=by
 rcases h with(h|⟨d,h⟩)|h
 ·exact .inl (.inl (by rw[c7 (j9 h c (by intro z;cases z))];exact h))
 ·exact .inl (.inr ⟨d,by rw[c7 (j9 h c (by intro z;cases z))];exact h⟩)
 ·exact .inr h
theorem Km(p:H q=some (.lst ys)):∀{d:PyData}{v:V},TD d->Rep K H v d->Rep K (upd H q o) v d:=by
 intro d v s;induction s generalizing v with
 |str a l=>intro r;cases r;exact .str _
 |int a b=>intro r;cases r;exact .int _
 |nil=>intro r;cases r with|tup i g=>cases g;exact .tup (vD i p) .nil
 | @node f r a b c tr x=>
   intro w;cases w with
   |tup i g=>
   cases g with
   |cons y g=>
   cases y;refine .tup (vD i p) (.cons (.str _) ?_);have:∀{l:List PyData}{vs:List V},(∀d∈l,d∈r)->gn K H vs l->gn K (upd H q o) vs l:=by
    intro l;induction l with
    |nil=>intro vs _ h;cases h;exact .nil
    | cons e l j=>
      intro vs n h;cases h with
      |cons z A=>exact .cons (x e (n e (aal ..)) z) (j (λd m=>n d (aah _ m)) A)
   exact this (λd m=>m) g
theorem sO(c:H q=some (.lst ys)):∀{l:List PyData}{vs:List V},(∀d∈l,TD d)->gn K H vs l->gn K (upd H q o) vs l
 |[],_,_,.nil=>.nil
 |e::l,_,ht,.cons a b=>.cons (Km c (ht e (aal ..)) a) (sO c (λd m=>ht d (aah _ m)) b)
theorem rW:∀{l m:List PyData}{vs c:List V},gn K H vs l->gn K H c m->gn K H (vs++c) (l++m)
 |[],_,_,_,.nil,h=>h
 |_::_,_,_,_,.cons a b,h=>.cons a (rW b h)
section
variable{P:ZE}{w:ZH}{K:Zs}{mg:Y1}{base:ZN}
structure U8(mg:Y1):Prop where
 mp:∃t,mg "MOST_PARTS"=some (.int 15 t)
 md:∃t,mg "MOST_DEEP"=some (.int 5 t)
inductive Ox(K:Zs)(vs:List V)(H:Hp)(Q:VK)(E:XK):Prop
 |mk (x:V) (d:PyData):vs=[x]->Rep K H x d->TD d->(∀H',di H H'->Q (.bl (jx d)) H')->Ox K vs H Q E
def Yg:du ["test"] ["test"] (b_ (top 73)):=by ext
def S7(F:ir K "is_test" "is_test" (top 73) f i)(TT:U8 mg)(y:gq K mg "count_parts" (top 72) ["thing","deep"] g a)(z:dm P w K mg base dU 9 g a ["thing","deep"] (Eb K 5)):dm P w K mg base dU 10 f i ["test"] (Ox K):=by
 refine F.ok Yg (by ext) λj A b s H vs Q E l h=>?_;obtain ⟨x,d,rfl,o,p,k⟩:=h;obtain ⟨B,q⟩:=TT.mp;obtain ⟨C,r⟩:=TT.md;refine ⟨_,(d8 (dw (yN jN jN dh (iJ y z l (aK (pv 0) (aK (iB (v:=.int 5) rfl r ⟨_,rfl⟩) cZ))) (iB (v:=.int 15) rfl q ⟨_,rfl⟩)))),?_⟩
 try dsimp only [jr]
 refine ⟨_,rfl,x,d,rfl,o,p,λe m=>⟨_,_,rfl,rfl,_,rfl,?_⟩⟩;have k:=k e m;rw [<-LR]at k;refine jT (λh=>?_) (λh=>?_)
 ·refine ⟨_,_,rfl,rfl,?_⟩;have c:1<=cnt 5 d:=by simp at h;omega
  have n:decide (((cnt 5 d:Nat):Int)<=15)=decide (cnt 5 d<=15):=by rw [aba];simp;omega
  rw [aa1 c,abP]at k;show Q (.bl (decide (((cnt 5 d:Nat):Int)<=15))) e;rw [n];exact k
 ·have c:¬1<=cnt 5 d:=by simp at h;omega
  rw [aaR c,abS]at k;exact k
inductive Ri(K:Zs)(cT:Zl)(vs:List V)(H:Hp)(Q:VK)(E:XK):Prop
 |mk (x:V) (d:PyData):vs=[x]->Rep K H x d->TD d->((jx d=true->∀H',di H H'->Q .non H'))->((jx d=false->False))->Ri K cT vs H Q E
def Y5:du ["test"] ["test"] (b_ (top 74)):=by ext
theorem RK(F:ir K "need_test" "need_test" (top 74) f i)(q:gq K mg "is_test" (top 73) ["test"] g a)(r:dm P w K mg base dU 10 g a ["test"] (Ox K)):dm P w K mg base dU 11 f i ["test"] (Ri K cT):=by
 refine F.ok Y5 (by ext) λb A c s H vs Q E e h=>?_;obtain⟨x,d,rfl,n,o,k,p⟩:=h;have m:eZ 3 _:=e.mono (by decide);refine⟨_,(d8 (eX (jm (iT (iJ q r e (aK (pv 0) cZ)))) (d8 gj) dI)),?_⟩
 try dsimp only[jr]
 refine⟨_,rfl,x,d,rfl,n,o,λj l=>⟨_,rfl,?_⟩⟩;cases h:jx d with
 |true=>exact gW rfl (k h j l)
 |false=>exact j5 rfl (p h)
end
inductive rE:Str->List PyData->Prop
 |all:rE "all" []
 |is {x:Str}:nameB x=true->rE "is" [.str x]
 |num {f x:Str} {i:Int}:f="less"\/f="same"->nameB x=true->z_ (.int i)=true->rE f [.str x,.int i]
def BJ(h:jY f r=true):rE f r:=by
 unfold jY at h;by_cases a:f="all"
 ·subst a;rw[aac rfl,List.isEmpty_iff]at h;subst h;exact .all
 ·rw[aab a]at h;by_cases b:f="is"
  ·subst b;rw[aac rfl]at h;cases r with
   |nil=>cases h
   | cons d r=>
     cases r with
     |cons _ _=>cases h
     | nil=>
       cases d with
       |str x=>exact .is h
       |_=>exact absurd h (by simp[oF])
  ·rw[aab b,aaK,abi]at h;obtain⟨c,h⟩:=h;cases r with
   |nil=>cases h
   | cons d r=>
     cases r with
     |nil=>cases h
     | cons e r=>
       cases r with
       |cons _ _=>cases h
       | nil=>
         have h:(oF d&&z_ e)=true:=h;rw[aaK]at h;cases d with
         | str x=>
           cases e with
           |int i=>exact .num c h.1 h.2
           |_=>exact absurd h.2 (by simp[z_])
         |_=>exact absurd h.1 (by simp[oF])
theorem rE.ar(h:rE f r):arity f=none:=by
 cases h with
 |all=>decide+kernel
 |is _=>decide+kernel
 |num h _ _=>rcases h with rfl|rfl<;>decide+kernel
def R9(h:Nm x):Kh x:=by unfold Kh;rw[<-Array.all_toList,abR];intro c a;have:=h.lc c a;simp;omega
structure Tr(n:Nat)(d:PyData):Prop where
 td:TD d
 sh:gK d=true
 dp:gU d<=n
def NZ(h:Nm x):TD (.str x):=.str (R9 h) (by have:=h.hi;omega)
theorem rE.tr(h:rE f r):Tr 1 (.tuple (.str f::r)):=by
 have a:gK (.tuple (.str f::r))=true:=by
  rw [lJ,h.ar,aac rfl];cases h with
  |all=>rfl
  |is n=>exact n
  | num h n m=>
    unfold jY;rcases h with rfl|rfl
    ·rw [aab (by ext),aab (by ext)];simp [oF,n,m]
    ·rw [aab (by ext),aab (by ext)];simp [oF,n,m]
 cases h with
 |all=>exact ⟨.node (by unfold Kh;decide +kernel) (by ext) (by simp) (by simp),a,by simp [gU,gA]⟩
 | @is x n=>refine ⟨.node (by unfold Kh;decide +kernel) (by ext) (by simp) (λd m=>?_),a,by simp [gU,gA]⟩;simp at m;subst m;exact NZ ((mH x).mp n)
 | @num f x i h n b=>
   refine ⟨.node ?_ ?_ (by simp) (λd m=>?_),a,by simp [gU,gA]⟩
   ·rcases h with rfl|rfl<;>(unfold Kh;decide +kernel)
   ·rcases h with rfl|rfl<;>decide +kernel
   ·simp at m;rcases m with rfl|rfl
    ·exact NZ ((mH x).mp n)
    ·have h:(decide (-999999<=i)&&decide (i<=999999))=true:=b;simp at h;have:(1000000:Int)<=P_:=by decide
     exact .int (by omega) (by omega)
section
variable{P:ZE}{w:ZH}{K:Zs}{mg:Y1}{base:ZN}
inductive Ik(vs:List V)(H:Hp)(Q:VK)(E:XK):Prop
 |mk (p dc:Zl):vs=[.ref p]->Dr H p dc->(∀(z:Int)(H':Hp),-999999<=z->z<=999999->Dr H' p dc->ii p H H'->Q (.int z) H')->Ik vs H Q E
def Tj:du ["_law_d"] ["_law_d"] (b_ (top 119)):=by ext
def QG(F:ir K "_law_number" "_law_number" (top 119) f r)(T:Txt K mg)(d:gq K mg "_law_pick" (top 113) ["_law_d","_law_many"] n b)(v:gq K mg "_law_of" (top 114) ["_law_d","_law_things"] o c):dm P w K mg base dU 3 f r ["_law_d"] Ik:=by
 have i:dm P w K mg base dU 1 n b ["_law_d","_law_many"] jK:=jH d.F T;have U:dm P w K mg base dU 2 o c ["_law_d","_law_things"] (xr K):=vq v.F T d;refine F.ok Tj (by ext) λx A g s H vs Q E j h=>?_;obtain⟨p,e,rfl,D,k⟩:=h;have a:eZ 1 _:=j.mono (by decide);refine⟨_,(d8 (dw (iJ v U j (aK (pv 0) (aK (gC (aK dh (aK dh (aK (iJ d i a (aK (pv 0) (aK dh cZ))) (aK (fX jR (iJ d i a (aK (pv 0) (aK dh cZ))) dh) (aK dh (aK (oh lV dh) (aK (fX jR (iJ d i a (aK (pv 0) (aK dh cZ))) dh) cZ)))))))) cZ))))),?_⟩
 try dsimp only[jr]
 refine⟨_,rfl,_,rfl,p,e,_,rfl,D,by decide,by decide,λr1 Y B r11 C G=>?_⟩;refine⟨_,rfl,p,e,_,rfl,C,by decide,by decide,λr2 Z r20 I J L=>⟨_,_,rfl,rfl,_,rfl,?_⟩⟩;refine⟨_,rfl,p,e,_,rfl,J,by decide,by decide,λr3 H3 r30 r31 M N=>⟨_,_,rfl,rfl,(by ext),λq l=>?_⟩⟩;refine⟨p,e,q,_,rfl,M.new l,fj.of a_,by simp,by simp,λy O m R S=>?_⟩;obtain⟨z,rfl,W,X⟩:∃z:Int,y=.int z/\-999999<=z/\z<=999999:=by
  simp only[aai,aa4,or_false]at m;rcases m with rfl|rfl|rfl|rfl|rfl|rfl|rfl
  all_goals exact⟨_,rfl,by omega,by omega⟩
 exact k z O W X R (((G.trans L).trans N).trans ((ii.new l).trans S))
inductive HS(K:Zs)(vs:List V)(H:Hp)(Q:VK)(E:XK):Prop
 |mk (p dc q q':Zl) (ys ys':Y2):vs=[.ref p,.ref q,.ref q']->Dr H p dc->fj K H q (ys.map V.str)->fj K H q' (ys'.map V.str)->ys≠[]->ys'≠[]->ys.length<=100->ys'.length<=100->(∀y∈ys,Nm y)->(∀y∈ys',Nm y)->(∀(x:V)(f:Str)(r:List PyData)(H':Hp),Rep K H' x (.tuple (.str f::r))->rE f r->Dr H' p dc->ii p H H'->Q x H')->HS K vs H Q E
noncomputable abbrev Zz:List Str:=["_law_d","_law_names","_law_kinds","_law_way"]
def Ss:du Zz ["_law_d","_law_names","_law_kinds"] (b_ (top 120)):=by ext
def Bl{ys:Y2}(h:v∈ys.map V.str):∃y∈ys,v=.str y:=by obtain⟨y,m,rfl⟩:=aap.mp h;exact⟨y,m,rfl⟩
def Nr(F:ir K "_law_leaf" "_law_leaf" (top 120) f fd)(T:Txt K mg)(v:gq K mg "_law_pick" (top 113) ["_law_d","_law_many"] X e)(x:gq K mg "_law_of" (top 114) ["_law_d","_law_things"] Y g)(DN:gq K mg "_law_number" (top 119) ["_law_d"] Z i):dm P w K mg base dU 4 f fd ["_law_d","_law_names","_law_kinds"] (HS K):=by
 have GP:dm P w K mg base dU 1 X e ["_law_d","_law_many"] jK:=jH v.F T;have W:dm P w K mg base dU 2 Y g ["_law_d","_law_things"] (xr K):=vq x.F T v;have GN:dm P w K mg base dU 3 Z i ["_law_d"] Ik:=QG DN.F T v x;refine F.ok Ss (by ext) λaa A B s H vs Q E C h=>?_;obtain⟨p,r,q,q',ys,ab,rfl,D,hq,M,ne,N,l,l',nm,O,k⟩:=h;have L:eZ 1 _:=C.mono (by decide);have d:eZ 2 _:=C.mono (by decide);refine⟨_,(bK (jj 3 Ss.nd (iJ v GP L (aK (pv 0) (aK dh cZ)))) (bK (eX (dM gG (pv 3) dh (dN _)) (d8 (dw (gw (aK dC cZ)))) dI) (bK (eX (dM gG (pv 3) dh (dN _)) (d8 (dw (gw (aK dC (aK (iJ x W d (aK (pv 0) (aK (pv 2) cZ))) cZ))))) dI) (d8 (dw (gw (aK (dZ g_ (gC (aK dC (aK dC cZ))) (fX lX (pv 3) dh)) (aK (iJ x W d (aK (pv 0) (aK (pv 1) cZ))) (aK (iJ DN GN C (aK (pv 0) cZ)) cZ))))))))),?_⟩
 try dsimp only[jr]
 refine⟨_,rfl,p,r,_,rfl,D,by decide,by decide,λS H1 w0 w6 G m=>⟨_,rfl,rfl,_,rfl,?_⟩⟩;refine jT (λ_=>⟨(by ext),λt a=>?_⟩) (λ_=>⟨_,rfl,rfl,_,rfl,?_⟩)
 ·exact k _ "all" [] _ (.tup (gf.of a_) (.cons (.str _) .nil)) .all (G.new a) (m.trans (ii.new a))
 refine jT (λ_=>?_) (λ_=>?_)
 ·refine⟨_,rfl,_,rfl,p,r,q',_,rfl,G,D.seq m M,by simpa using N,by rw[aad];omega,λy H2 I J n=>⟨(by ext),λt a=>?_⟩⟩;obtain⟨y,R,rfl⟩:=Bl I;exact k _ "is" [.str y] _ (.tup (gf.of a_) (.cons (.str _) (.cons (.str _) .nil))) (.is ((mH y).mpr (O y R))) (J.new a) ((m.trans n).trans (ii.new a))
 ·refine⟨(by ext),λU b=>⟨_,rfl,_,_,rfl,rfl,(by show(0:Int)<2;decide),?_⟩⟩;have n:ii p H (upd H1 U (.lst [.str "less",.str "same"])):=m.trans (ii.new b);obtain⟨j,hj,ej⟩:∃j:Nat,j<2/\S % 2=j:=⟨(S % 2).toNat,by omega,by omega⟩;have J:=G.new (o:=.lst [.str "less",.str "same"]) b;obtain⟨c,hf,ef⟩:∃c:Str,(c="less"\/c="same")/\([V.str "less",V.str "same"])[j]?=some (.str c):=by
   match j,hj with
   |0,_=>exact⟨"less",.inl rfl,rfl⟩
   |1,_=>exact⟨"same",.inr rfl,rfl⟩
  refine⟨U,_,_,_,rfl,rfl,fj.of a_,(by rw[ej];exact dz ef),_,rfl,_,rfl,p,r,q,_,rfl,J,D.seq n hq,by simpa using ne,by rw[aad];omega,λy H3 I D3 b3=>?_⟩;obtain⟨y,R,rfl⟩:=Bl I;refine⟨_,rfl,p,r,rfl,D3,λz H4 z1 z2 D4 b4=>⟨(by ext),λt a=>?_⟩⟩;exact k _ c [.str y,.int z] _ (.tup (gf.of a_) (.cons (.str _) (.cons (.str _) (.cons (.int _) .nil)))) (.num hf ((mH y).mpr (nm y R)) (by simp[z_];omega)) (D4.new a) (((n.trans b3).trans b4).trans (ii.new a))
def Tr.mono(h:Tr n d)(l:n<=m):Tr m d:=⟨h.td,h.sh,aag h.dp l⟩
def Tr.one(h:Tr n d):Tr (n+1) (.tuple [.str "not",d]):=by
 refine⟨.node (by unfold Kh;decide+kernel) (by ext) (by simp) (λe m=>?_),?_,?_⟩
 ·simp at m;subst m;exact h.td
 ·rw[lJ,show arity "not"=some 1 from by ext,aab (by nofun)];simp[shapes,h.sh]
 ·have:=h.dp;simp[gU,gA];omega
def Tr.two{n:Nat}{f:Str}{d e:PyData}(a:f="and"\/f="or")(h:Tr n d)(b:Tr n e):Tr (n+1) (.tuple [.str f,d,e]):=by
 refine⟨.node ?_ ?_ (by simp) (λe m=>?_),?_,?_⟩
 ·rcases a with rfl|rfl<;>(unfold Kh;decide+kernel)
 ·rcases a with rfl|rfl<;>decide+kernel
 ·simp at m;rcases m with rfl|rfl
  ·exact h.td
  ·exact b.td
 ·have c:arity f=some 2:=by rcases a with rfl|rfl<;>decide+kernel
  rw[lJ,c,aab (by nofun)];simp[shapes,h.sh,b.sh]
 ·have:=h.dp;have:=b.dp;simp[gU,gA];omega
inductive CP(K:Zs)(n:Nat)(vs:List V)(H:Hp)(Q:VK)(E:XK):Prop
 |mk (p dc q q':Zl) (ys ys':Y2) (m:Int):vs=[.ref p,.int m,.ref q,.ref q']->m<=n->Dr H p dc->fj K H q (ys.map V.str)->fj K H q' (ys'.map V.str)->ys≠[]->ys'≠[]->ys.length<=100->ys'.length<=100->(∀y∈ys,Nm y)->(∀y∈ys',Nm y)->(∀(x:V)(d:PyData)(H':Hp),Rep K H' x d->Tr n d->Dr H' p dc->ii p H H'->Q x H')->CP K n vs H Q E
noncomputable abbrev NTr:List Str:=["_law_d","_law_deep","_law_names","_law_kinds","_law_way","_law_word_here"]
def Qc:du NTr ["_law_d","_law_deep","_law_names","_law_kinds"] (b_ (top 121)):=by ext
theorem Wb{f fP fO fN fL:Zl}{X Y fdO fdN Z:ZB}(DT:gq K mg "_law_tree" (top 121) ["_law_d","_law_deep","_law_names","_law_kinds"] f X)(T:Txt K mg)(DP:gq K mg "_law_pick" (top 113) ["_law_d","_law_many"] fP Y)(DO:gq K mg "_law_of" (top 114) ["_law_d","_law_things"] fO fdO)(DN:gq K mg "_law_number" (top 119) ["_law_d"] fN fdN)
 (DL:gq K mg "_law_leaf" (top 120) ["_law_d","_law_names","_law_kinds"] fL Z)(n:Nat):dm P w K mg base dU (n+5) f X ["_law_d","_law_deep","_law_names","_law_kinds"] (CP K (n+1)):=by
 have GP:dm P w K mg base dU 1 fP Y ["_law_d","_law_many"] jK:=jH DP.F T;have GL:dm P w K mg base dU 4 fL Z ["_law_d","_law_names","_law_kinds"] (HS K):=Nr DL.F T DP DO DN;have v:∀m:Nat,(∀j,j+1=m->dm P w K mg base dU (j+5) f X ["_law_d","_law_deep","_law_names","_law_kinds"] (CP K (j+1)))->dm P w K mg base dU (m+5) f X ["_law_d","_law_deep","_law_names","_law_kinds"] (CP K (m+1)):=by
  intro m GC;have GT:dm P w K mg base dU (m+4) f X ["_law_d","_law_deep","_law_names","_law_kinds"] (λvs H Q E=>∃j,j+1=m/\CP K (j+1) vs H Q E):=by
   match m,GC with
   |0,_=>exact⟨λ_ _ _ _⟨n,e,_⟩=>by omega,λ_ _ _ _ _ _ _ _ _ _ _ _ _⟨n,e,_⟩=>by omega⟩
   | m+1,GC=>have G:=GC m rfl;exact⟨λvs H Q E⟨n,e,h⟩=>by cases e;exact G.1 vs H Q E h,λa1 a2 a3 a4 a5 a6 a7 a8 a9 aa ab ac ad⟨n,e,h⟩=>by cases e;exact G.2 a1 a2 a3 a4 a5 a6 a7 a8 a9 aa ab ac ad h⟩
  refine DT.F.ok Qc (λvs H Q E h=>?_) (λL A ae s H vs Q E M h=>?_)
  ·obtain⟨p,I,q,J,ys,a,z,rfl,_⟩:=h;rfl
  ·obtain⟨p,I,q,J,ys,a,z,rfl,hz,D,hq,F,ne,b,l,l',nm,c,k⟩:=h;have ah:eZ 1 _:=M.mono (by omega);have ai:eZ 4 _:=M.mono (by omega);refine⟨_,(bK (jj 4 Qc.nd (iJ DP GP ah (aK (pv 0) (aK dh cZ)))) (bK (eX (PW.pt (uA (dM uz (pv 1) dh (dN _)) (tR (dM gG (pv 4) dh (dN _))))) (d8 (dw (iJ DL GL ai (aK (pv 0) (aK (pv 2) (aK (pv 3) cZ)))))) dI) (bK (eX (dM gG (pv 4) dh (dN _)) (d8 (dw (gw (aK dC (aK (iJ DT GT M (aK (pv 0) (aK (fX jR (pv 1) dh) (aK (pv 2) (aK (pv 3) cZ))))) cZ))))) dI) (bK (jj 5 Qc.nd (dZ g_ (gC (aK dC (aK dC cZ))) (fX lX (pv 4) dh))) (d8 (dw (gw (aK (pv 5) (aK (iJ DT GT M (aK (pv 0) (aK (fX jR (pv 1) dh) (aK (pv 2) (aK (pv 3) cZ))))) (aK (iJ DT GT M (aK (pv 0) (aK (fX jR (pv 1) dh) (aK (pv 2) (aK (pv 3) cZ))))) cZ)))))))))),?_⟩
   try dsimp only[jr]
   refine⟨_,rfl,p,I,_,rfl,D,by decide,by decide,λw1 H1 w0 w5 D1 N=>?_⟩;have U:=D.seq N hq;have y:=D.seq N F;have B:Fo (HS K) [] E0 (yW (oY 0) (yW (oY 2) (yW (oY 3) y_))) [some (.ref p),some (.int z),some (.ref q),some (.ref J),some (.int w1),none] H1 Q:=
    ⟨_,rfl,_,rfl,_,rfl,p,I,q,J,ys,a,rfl,D1,U,y,ne,b,l,l',nm,c,λx f r H' rp lf D' b'=>k x _ H' rp (lf.tr.mono (by omega)) D' (N.trans b')⟩;refine⟨_,rfl,_,_,rfl,rfl,_,rfl,jT (λ_=>j5 rfl B) (λO=>⟨_,rfl,rfl,_,rfl,jT (λ_=>B) (λ_=>?_)⟩)⟩;have O:¬z<2:=by simpa using O
   obtain⟨j,rfl⟩:∃j,m=j+1:=⟨m-1,by omega⟩;refine⟨_,rfl,rfl,_,rfl,jT (λ_=>?_) (λ_=>?_)⟩
   ·refine⟨_,rfl,_,rfl,_,_,rfl,rfl,_,rfl,_,rfl,j,rfl,p,I,q,J,ys,a,z-1,rfl,by omega,D1,U,y,ne,b,l,l',nm,c,λx d H2 rx tx D2 R=>⟨(by ext),λt g=>?_⟩⟩;exact k _ _ _ (.tup (gf.of a_) (.cons (.str _) (.cons (rx.same (di.new g)) .nil))) tx.one (D2.new g) ((N.trans R).trans (ii.new g))
   ·refine⟨(by ext),λl0 S=>⟨_,rfl,_,_,rfl,rfl,(by show(0:Int)<2;decide),?_⟩⟩;have R:ii p H (upd H1 l0 (.lst [.str "and",.str "or"])):=N.trans (ii.new S);obtain⟨i,hj,ej⟩:∃i:Nat,i<2/\w1 % 2=i:=⟨(w1 % 2).toNat,by omega,by omega⟩;have D2:=D1.new (o:=.lst [.str "and",.str "or"]) S;obtain⟨f0,hf,ef⟩:∃f0:Str,(f0="and"\/f0="or")/\([V.str "and",V.str "or"])[i]?=some (.str f0):=by
     match i,hj with
     |0,_=>exact⟨"and",.inl rfl,rfl⟩
     |1,_=>exact⟨"or",.inr rfl,rfl⟩
    refine⟨l0,_,_,_,rfl,rfl,fj.of a_,(by rw[ej];exact dz ef),_,rfl,?_⟩;have aj:=D.seq R hq;have W:=D.seq R F;refine⟨_,rfl,_,rfl,_,_,rfl,rfl,_,rfl,_,rfl,j,rfl,p,I,q,J,ys,a,z-1,rfl,by omega,D2,aj,W,ne,b,l,l',nm,c,λx d H3 rx tx D3 b3=>?_⟩;have C:=R.trans b3;refine⟨_,rfl,_,rfl,_,_,rfl,rfl,_,rfl,_,rfl,j,rfl,p,I,q,J,ys,a,z-1,rfl,by omega,D3,D.seq C hq,D.seq C F,ne,b,l,l',nm,c,λx2 d2 H4 af ag D4 b4=>⟨(by ext),λt g=>?_⟩⟩;exact k _ _ _ (.tup (gf.of a_) (.cons (.str _) (.cons ((D3.rep b4 rx).same (di.new g)) (.cons (af.same (di.new g)) .nil)))) (tx.two hf ag) (D4.new g) ((C.trans b4).trans (ii.new g))
 induction n with
 |zero=>exact v 0 (λn e=>by omega)
 |succ n ih=>exact v (n+1) (λn' e=>by cases e;exact ih)
end
def R_(f a b:Str):inV (.str f) [.str a,.str b]=decide (f=a\/f=b):=by rw [aba];simp [inV,zm];constructor <;>(rintro (h|h)<;>simp [h])
def XS(f a b c:Str):inV (.str f) [.str a,.str b,.str c]=decide (f=a\/f=b\/f=c):=by rw [aba];simp [inV,zm];constructor <;>(rintro (h|h|h)<;>simp [h])
def Tw(f:Str):decide (f="not"\/f="and"\/f="or")=(arity f).isSome:=by
 unfold arity;by_cases a:f="not"
 ·simp [a]
 ·by_cases b:f="and"
  ·subst b;decide +kernel
  ·by_cases c:f="or"
   ·subst c;decide +kernel
   ·simp [a,b,c]
theorem Hl(v:TD d):gK d=true->iD d<=gU d:=by
 induction v with
 |str a b=>intro h;cases h
 |int a b=>intro h;cases h
 |nil=>intro h;cases h
 | @node f r a b c tr s=>
   intro p;have e:iD (.tuple (.str f::r))=if(arity f).isSome=true then 1+jC r else 1:=rfl
   have i:gU (.tuple (.str f::r))=max 0 (gA r)+1:=rfl;rcases qO (n:=iD (.tuple (.str f::r))) p (by omega)with⟨q,_⟩|N
   ·rw[e,q,i];show 1<=_;omega
   ·have:∀l:List PyData,(∀d∈l,d∈r)->jC l<=gA l:=by
     intro l;induction l with
     |nil=>intro _;exact aaJ _
     | cons d l g=>intro o;have j:=o d (aal ..);have w:=s d j (N.sh d j);have x:=g (λd m=>o d (aah _ m));show max (iD d) (jC l)<=max (gU d) (gA l);omega
    have:=this r (λ_ m=>m);rw[e,N.ar,i];show 1+jC r<=_;omega
def Cp(h:gU (.tuple (.str f::r))<=n+1)(m:d∈r):gU d<=n:=by have:=pM m;have h:max 0 (gA r)+1<=n+1:=h;omega
def Fq(a:gK d=true)(h:iD d<=n):iH d+1<=2 ^ n:=by have:=zF n d;rw[An,aac ⟨a,h⟩]at this;exact this
section
variable{P:ZE}{w:ZH}{K:Zs}{mg:Y1}{base:ZN}
inductive JM(K:Zs)(g:PyData->Nat)(n:Nat)(vs:List V)(H:Hp)(Q:VK)(E:XK):Prop
 |mk (x:V) (d:PyData):vs=[x]->Rep K H x d->TD d->gK d=true->iD d<=n->n<=10->(∀H',di H H'->Q (.int (g d:Nat)) H')->JM K g n vs H Q E
def Yy:du ["_law_test_here"] ["_law_test_here"] (b_ (top 122)):=by ext
theorem Tv(L:gq K mg "_law_parts" (top 122) ["_law_test_here"] f U)(F:mg "sum"=none)(n:Nat):dm P w K mg base dU n f U ["_law_test_here"] (JM K iH n):=by
 refine Nat.rec (motive:=λn=>dm P w K mg base dU n f U ["_law_test_here"] (JM K iH n)) ⟨λ_ _ _ _ h=>?_,λ_ _ _ _ _ _ _ _ _ _ _ _ _ h=>?_⟩ (λn GL=>?_) n
 ·obtain⟨x,d,_,_,_,_,hd,_⟩:=h;exact absurd (aag (lC d) hd) (by decide)
 ·obtain⟨x,d,_,_,_,_,hd,_⟩:=h;exact absurd (aag (lC d) hd) (by decide)
 refine L.F.ok Yy (by ext) λaa A M s H vs Q E hr h=>?_;obtain⟨x,d,rfl,rd,Y,Z,hd,hn,k⟩:=h;refine⟨_,(bK (eX (dM wK (dZ eU (pv 0) dh) (gw (aK dC (aK dC (aK dC cZ)))) rfl) (d8 (dw dh)) dI) (d8 (dw (fX iI dh (dD (p_ rfl) (by rfl) F Al (aK (jb (g:=eN 0) (own:=["_law_part"]) (js:=[]) (N':=["_law_part"]) (dX.of (osc:=b_ (top 122)) (N:=["_law_test_here"]) rfl rfl (by ext)) rfl (kY (lA pL (pv 0) (mU dh) mR)) (λ_ _ _ _ _=>(fZ (i:=0) (show List.Nodup (["_law_part"]:Y2) by ext) rfl (.inl rfl) (.inr rfl))) (λ_ _ _ _ _=>gF) (λ_ _ _ _ _=>pG GL hr rfl L.mg L.F.kp L.b .nil dR (aK (pv 0) cZ))) cZ)))))),?_⟩
 try dsimp only[jr]
 obtain⟨f,r,rfl⟩:=ju Y Z;cases Y with
 |node af lf nr tr=>
 cases rd with
 |@tup a xs _ sq rs=>
 obtain⟨O,ys,rfl⟩:∃O ys,xs=O::ys:=by cases rs;exact⟨_,_,rfl⟩
 obtain⟨r0,rt⟩:Rep K H O (.str f)/\gn K H ys r:=by cases rs with|cons a b=>exact⟨a,b⟩
 cases r0;have hl:=rt.length;refine⟨_,rfl,a,_,_,_,rfl,rfl,sq,dz (j:=0) rfl,(by ext),λt ht=>?_⟩;have z:di H (upd H t (.tup [.str "not",.str "and",.str "or"])):=di.new ht;refine⟨t,_,rfl,.inr (gf.of a_),rfl,rfl,_,rfl,?_⟩;rw[XS,Tw];have B:=z.tup sq;have C:=rt.same z;generalize upd H t (.tup [.str "not",.str "and",.str "or"])=J at z B C|-;have e:iH (.tuple (.str f::r))=if(arity f).isSome=true then 1+jF r else 1:=rfl
 rw[e]at k;rcases qO Z hd with⟨ha,ac⟩|N
 ·rw[ha]at k|-;exact j5 rfl (k _ z)
 ·rw[N.ar]at k|-;have k:∀o,di H o->Q (.int (1+jF r:Nat)) o:=k;have a2:=ye N.ar;refine gW rfl ⟨_,rfl,1,rfl,a,_,rfl,B,(λe=>?_),λp hp=>?_⟩
  ·rw[zq]at e;have:=aaB List.length e;simp at this
  ·rw[zq];have R:gf K (upd J p (.tup ys)) p ys:=gf.of a_;have S:di J (upd J p (.tup ys)):=di.new hp;generalize upd J p (.tup ys)=H1 at R S|-;refine⟨p,rfl,⟨_,R⟩,?_⟩;refine iY (xs:=ys) (λi G c o=>(∃v,c=[v])/\di H1 o/\G=((r.take i).map λd=>V.int (iH d:Nat))) (aag (show ys.length<=20 by omega) (by decide)) ⟨⟨none,rfl⟩,di.refl _,rfl⟩ (λi G c o _⟨_,m,_⟩=>m.tup R) ?_ ?_
   ·rintro i y G c H2 hy D⟨⟨v,rfl⟩,m,rfl⟩N' hN;obtain⟨d,hd,ry⟩:=C.get' hy;have T:=aaj hd;refine⟨_,rfl,y,d,rfl,ry.same (S.trans m),tr d T,N.sh d T,N.de d T,by omega,λH3 I=>?_⟩;exact hN _ _ _ (by rw[aas,D];rfl) ⟨⟨_,rfl⟩,m.trans I,by rw[aaT,hd];simp⟩
   ·rintro G c H2 D⟨⟨v,rfl⟩,m,rfl⟩;rw[abd (by omega)];have X:(r.map λd=>V.int (iH d:Nat)).length<=20:=by rw[aad];omega
    refine⟨aag X (by decide),λq W=>?_⟩;have I:di H (upd H2 q (.lst (r.map λd=>V.int (iH d:Nat)))):=((z.trans S).trans m).trans (di.new W);refine⟨q,r.map λd=>((iH d:Nat):Int),rfl,by rw[aby];exact fj.of a_,by rw[aad];omega,λx hx=>?_,_,_,rfl,rfl,?_⟩
    ·obtain⟨d,md,rfl⟩:=aap.mp hx;have:=Fq (N.sh d md) (N.de d md);have ab:2 ^ n<=2 ^ 10:=acV (by decide) (by omega);have:(2:Nat) ^ 10=1024:=by decide
     omega
    ·have es:(r.map iH).sum=jF r:=by
      clear k X I W;have:∀l:List PyData,(l.map iH).sum=jF l:=by
       intro l;induction l with
       |nil=>rfl
       |cons d l ih=>rw[aat,abx,ih];rfl
      exact this r
     rw[xZ,es];have:=k _ I;rw[show((1+jF r:Nat):Int)=1+((jF r:Nat):Int) by omega]at this;exact this
end
theorem uU:∀(n:Nat){vs:List V}{a:List PyData},gn K H vs a->gn K H (vs.drop n) (a.drop n)
 |0,_,_,h=>h
 |_+1,_,_,.nil=>.nil
 |n+1,_,_,.cons _ h=>uU n h
section
variable{P:ZE}{w:ZH}{K:Zs}{mg:Y1}{base:ZN}
inductive Og(K:Zs)(vs:List V)(H:Hp)(Q:VK)(E:XK):Prop
 |mk (p dc q q':Zl) (ys ys':Y2):vs=[.ref p,.ref q,.ref q']->Dr H p dc->fj K H q (ys.map V.str)->fj K H q' (ys'.map V.str)->ys≠[]->ys'≠[]->ys.length<=100->ys'.length<=100->(∀y∈ys,Nm y)->(∀y∈ys',Nm y)->(∀(x:V)(d:PyData)(H':Hp),Rep K H' x d->Tr 5 d->jx d=true->Dr H' p dc->ii p H H'->Q x H')->Og K vs H Q E
noncomputable abbrev ZR:List Str:=["_law_d","_law_names","_law_kinds","_law_test_here"]
def SQ:du ZR ["_law_d","_law_names","_law_kinds"] (b_ (top 123)):=by ext
def VB(F:ir K "_law_test" "_law_test" (top 123) f fd)(T:Txt K mg)(v:mg "sum"=none)(C:gq K mg "_law_pick" (top 113) ["_law_d","_law_many"] fP j)(DO:gq K mg "_law_of" (top 114) ["_law_d","_law_things"] fO S)(DN:gq K mg "_law_number" (top 119) ["_law_d"] fN U)
 (W:gq K mg "_law_leaf" (top 120) ["_law_d","_law_names","_law_kinds"] fL m)(DT:gq K mg "_law_tree" (top 121) ["_law_d","_law_deep","_law_names","_law_kinds"] fT n)(DA:gq K mg "_law_parts" (top 122) ["_law_test_here"] fA o):dm P w K mg base dU 10 f fd ["_law_d","_law_names","_law_kinds"] (Og K):=by
 have GP:dm P w K mg base dU 1 fP j ["_law_d","_law_many"] jK:=jH C.F T;have GL:dm P w K mg base dU 4 fL m ["_law_d","_law_names","_law_kinds"] (HS K):=Nr W.F T C DO DN;have GT:dm P w K mg base dU 9 fT n ["_law_d","_law_deep","_law_names","_law_kinds"] (CP K 5):=Wb DT T C DO DN W 4;have GA:dm P w K mg base dU 5 fA o ["_law_test_here"] (JM K iH 5):=Tv DA v 5;refine F.ok SQ (by ext) λaa A G s H vs Q E z h=>?_;obtain⟨p,R,q,q',ys,c,rfl,D,hq,e,ne,g,l,l',nm,i,k⟩:=h;have L:eZ 1 _:=z.mono (by decide);have M:eZ 4 _:=z.mono (by decide);have N:eZ 5 _:=z.mono (by decide);refine⟨_,(bK (jj 3 SQ.nd (iJ DT GT z (aK (pv 0) (aK (fX iI dh (iJ C GP L (aK (pv 0) (aK dh cZ)))) (aK (pv 1) (aK (pv 2) cZ)))))) (d8 (dw (kO (dM uz (iJ DA GA N (aK (pv 3) cZ)) dh (dN _)) (pv 3) (gw (aK dC (aK (iJ W GL M (aK (pv 0) (aK (pv 1) (aK (pv 2) cZ)))) cZ))))))),?_⟩
 try dsimp only[jr]
 refine⟨_,rfl,_,rfl,p,R,_,rfl,D,by decide,by decide,λr H1 r0 r1 D1 B=>⟨_,_,rfl,rfl,_,rfl,_,rfl,?_⟩⟩;refine⟨p,R,q,q',ys,c,1+r,rfl,by omega,D1,D.seq B hq,D.seq B e,ne,g,l,l',nm,i,λx d H2 X a Y Z=>?_⟩;have de:iD d<=5:=aag (Hl a.td a.sh) a.dp;refine⟨_,rfl,x,d,rfl,X,a.td,a.sh,de,by decide,λH3 b=>⟨_,_,rfl,rfl,_,rfl,jT (λh=>?_) (λh=>?_)⟩⟩
 ·have h:iH d<=15:=by simp at h;omega
  exact⟨_,rfl,k x d H3 (X.same b) a (by unfold jx;rw[a.sh,aa1 de,aa1 h];rfl) (Y.mono b) ((B.trans Z).trans b.but)⟩
 ·have O:=(B.trans Z).trans (b.but (p:=p));refine⟨_,rfl,_,rfl,_,rfl,p,R,q,q',ys,c,rfl,Y.mono b,D.seq O hq,D.seq O e,ne,g,l,l',nm,i,λy f r H4 ry I D4 b4=>⟨(by ext),λt J=>?_⟩⟩;have t1:Tr 2 (.tuple [.str "not",.tuple (.str f::r)]):=I.tr.one;refine k _ _ _ (.tup (gf.of a_) (.cons (.str _) (.cons (ry.same (di.new J)) .nil))) (t1.mono (by decide)) ?_ (D4.new J) ((O.trans b4).trans (ii.new J));have e1:iD (.tuple [.str "not",.tuple (.str f::r)])=2:=by show(if(arity "not").isSome=true then 1+max (if(arity f).isSome=true then 1+jC r else 1) 0 else 1)=2;rw[I.ar,show arity "not"=some 1 from by ext];rfl
  have e2:iH (.tuple [.str "not",.tuple (.str f::r)])=2:=by show(if(arity "not").isSome=true then 1+((if(arity f).isSome=true then 1+jF r else 1)+0)else 1)=2;rw[I.ar,show arity "not"=some 1 from by ext];rfl
  unfold jx;rw[t1.sh,e1,e2];rfl
end
inductive Pd{α β:Type}(R:α->β->Prop):List α->List β->Prop
 |nil:Pd R [] []
 |cons {x:α} {y:β} {xs:List α} {ys:List β}:R x y->Pd R xs ys->Pd R (x::xs) (y::ys)
section
variable{α β:Type}
theorem Pd.map(h:∀x y,R x y->b x y):∀{a:List α}{ys:List β},Pd R a ys->Pd b a ys
 |_,_,.nil=>.nil
 |_,_,.cons r t=>.cons (h _ _ r) (Pd.map h t)
theorem Pd.mapM:∀{a:List α}{ys:List β},(∀x∈a,∀y,R x y->b x y)->Pd R a ys->Pd b a ys
 |_,_,_,.nil=>.nil
 |_,_,h,.cons r t=>.cons (h _ (aal ..) _ r) (Pd.mapM (λx m=>h x (aah _ m)) t)
theorem Pd.len:∀{xs:List α}{ys:List β},Pd R xs ys->xs.length=ys.length
 |_,_,.nil=>rfl
 |_,_,.cons _ t=>by rw[aav,aav,t.len]
theorem Pd.at:∀{xs:List α}{ys:List β}{i:Nat}{x:α},Pd R xs ys->xs[i]?=some x->∃y,ys[i]?=some y/\R x y
 |_,_,_,_,.nil,e=>by simp at e
 |_,_,0,_,.cons r _,e=>by simp at e;subst e;exact⟨_,rfl,r⟩
 | _,_,i+1,_,.cons _ t,e=>by obtain⟨y,a,b⟩:=Pd.at (i:=i) t (by simpa using e);exact⟨y,by simpa using a,b⟩
theorem Pd.at':∀{a:List α}{ys:List β}{i:Nat}{y:β},Pd R a ys->ys[i]?=some y->∃x,a[i]?=some x/\R x y
 |_,_,_,_,.nil,e=>by simp at e
 |_,_,0,_,.cons r _,e=>by simp at e;subst e;exact⟨_,rfl,r⟩
 | _,_,i+1,_,.cons _ t,e=>by obtain⟨y,b,c⟩:=Pd.at' (i:=i) t (by simpa using e);exact⟨y,by simpa using b,c⟩
theorem Pd.app(h:Pd R b vs):∀{a:List α}{ys:List β},Pd R a ys->Pd R (a++b) (ys++vs)
 |_,_,.nil=>h
 |_,_,.cons r t=>.cons r (Pd.app h t)
theorem Pd.erase:∀{a:List α}{ys:List β}(i:Nat),Pd R a ys->Pd R (a.eraseIdx i) (ys.eraseIdx i)
 |_,_,_,.nil=>.nil
 |_,_,0,.cons _ t=>t
 |_,_,i+1,.cons r t=>.cons r (t.erase i)
theorem Pd.setM(h:R' x y):∀{xs:List α}{ys:List β}(i:Nat),(∀j u v,j≠i->xs[j]?=some u->R u v->R' u v)->Pd R xs ys->Pd R' (xs.set i x) (ys.set i y)
 |_,_,_,_,.nil=>.nil
 |_,_,0,k,.cons r t=>.cons h (Pd.mapM (λu m v q=>by obtain⟨j,a⟩:=aax.mp m;exact k (j+1) u v (by omega) (by simpa using a) q) t)
 |_,_,i+1,k,.cons r t=>.cons (k 0 _ _ (by omega) rfl r) (Pd.setM h i (λj u v ne e q=>k (j+1) u v (by omega) (by simpa using e) q) t)
end
structure Cl where
 tk:Int
 tm:Int
 nm:Str
 fi:List ji
 vs:List Int
 gv:Bool
structure Pg where
 cs:List Cl
 us:Int
 go:Int
structure Ln where
 pg:List Pg
 most:Int
 room:Int
 over:Bool
 held:Bool
 told:Int
 last:Option Int
 tks:Int
 giv:Int
 thr:Int
 los:Int
 mis:Int
structure LC where
 k:Addr
 c:Addr
 p:Addr
 l:Addr
structure LC.Ok(Z:LC):Prop where
 kc:Z.k≠Z.c
 kp:Z.k≠Z.p
 kl:Z.k≠Z.l
 cp:Z.c≠Z.p
 cl:Z.c≠Z.l
 pl:Z.p≠Z.l
structure PA where
 p:Addr
 l:Addr
 cs:List Addr
structure LA where
 a:Addr
 lp:Addr
 ps:List PA
noncomputable def LA.ls(k:LA):List Addr:=k.lp::k.ps.map (·.l)
noncomputable def LA.cs(k:LA):List Addr:=k.ps.flatMap (·.cs)
noncomputable def xY(m:Cl)(k t:Zl):List (Str×V):=[("ticket",.int m.tk),("time",.int m.tm),("form",.ref k),("filled",.ref t),("given",.bl m.gv)]
noncomputable def Jk(l:Zl)(m:Pg):List (Str×V):=[("claims",.ref l),("used",.int m.us),("gone",.int m.go)]
noncomputable def Wo:Option Int->V
 |none=>.non
 |some i=>.int i
noncomputable def Ew(a:Zl)(n:Ln):List (Str×V):=[("most",.int n.most),("room",.int n.room),("over",.bl n.over),("pages",.ref a),("held",.bl n.held),("told",.int n.told),("last_time",Wo n.last),("tickets",.int n.tks),("given_in",.int n.giv),("thrown_back",.int n.thr),("lost",.int n.los),("missed",.int n.mis)]
structure iU(Z:LC)(H:Hp)(c:Zl)(m:Cl):Prop where
 ex:∃dx k a t,H c=some (.ins Z.c dx (xY m k t))/\gZ Z.k H k m.nm a m.fi/\H t=some (.tup (m.vs.map V.int))
structure iZ(Z:LC)(H:Hp)(s:PA)(m:Pg):Prop where
 ob:∃dx,H s.p=some (.ins Z.p dx (Jk s.l m))
 ls:H s.l=some (.lst (s.cs.map V.ref))
 cs:Pd (iU Z H) s.cs m.cs
structure eE(Z:LC)(H:Hp)(k:LA)(n:Ln):Prop where
 ob:∃dx,H k.a=some (.ins Z.l dx (Ew k.lp n))
 ls:H k.lp=some (.lst (k.ps.map λs=>V.ref s.p))
 pg:Pd (iZ Z H) k.ps n.pg
 n1:(k.ps.map (·.p)).Nodup
 n2:k.ls.Nodup
 n3:k.cs.Nodup
noncomputable def Plain(Z:LC)(o:HO):Prop:=∀C a fs,o=.ins C a fs->C≠Z.c/\C≠Z.p/\C≠Z.l
structure Kt(Z:LC)(H H':Hp):Prop where
 tk:TK H H'
 kd:∀b dx fs,H b=some (.ins Z.k dx fs)->H' b=some (.ins Z.k dx fs)
section
variable{Z:LC}{H H' H'':Hp}
def di.kt(s:di H H'):Kt Z H H':=⟨λb a e=>s _ _ e,λb c fs e=>s _ _ e⟩
def Kt.lst(h:H q=some (.lst a)):Kt Z H (upd H q o):=
 ⟨TK.lst h,λc b fs e=>by rw[c7 (j9 e h (by intro z;cases z))];exact e⟩
def Kt.ins(h:H q=some (.ins C d fs))(ne:Z.k≠C):Kt Z H (upd H q o):=
 ⟨λc f e=>by rw[c7 (j9 e h (by intro z;cases z))];exact e,λc a b e=>by rw[c7 (λz=>by subst z;rw[h]at e;cases e;exact ne rfl)];exact e⟩
def gZ.kt(h:gZ Z.k H k nm a b)(q:Kt Z H H'):gZ Z.k H' k nm a b:=by obtain⟨⟨c,e⟩,d,f,g⟩:=h;exact⟨⟨c,q.kd _ _ _ e⟩,d,q.tk _ _ f,j7 g q.tk⟩
def iU.kt(h:iU Z H c m)(q:Kt Z H H')(s:H' c=H c):iU Z H' c m:=by obtain⟨b,k,a,t,d,e,f⟩:=h.ex;exact⟨b,k,a,t,by rw[s];exact d,e.kt q,q.tk _ _ f⟩
def iZ.kt(h:iZ Z H s m)(q:Kt Z H H')(b:H' s.p=H s.p)(d:H' s.l=H s.l)(e:∀c∈s.cs,H' c=H c):iZ Z H' s m:=
 ⟨by rw[b];exact h.ob,by rw[d];exact h.ls,Pd.mapM (λc a y r=>r.kt q (e c a)) h.cs⟩
def iU.same(h:iU Z H c m)(s:di H H'):iU Z H' c m:=by obtain⟨d,k,a,t,b,_⟩:=h.ex;exact h.kt (di.kt s) (by rw[b];exact s _ _ b)
def iZ.same(h:iZ Z H s m)(e:di H H'):iZ Z H' s m:=by obtain⟨a,b⟩:=h.ob;exact⟨⟨a,e _ _ b⟩,e _ _ h.ls,h.cs.map λ_ _ r=>r.same e⟩
def eE.same(h:eE Z H k n)(e:di H H'):eE Z H' k n:=by obtain⟨a,b⟩:=h.ob;exact⟨⟨a,e _ _ b⟩,e _ _ h.ls,h.pg.map λ_ _ r=>r.same e,h.n1,h.n2,h.n3⟩
noncomputable def LA.own(k:LA):List Addr:=k.a::(k.ps.map (·.p)++k.cs)
def LA.a_own{k:LA}:k.a∈k.own:=aal ..
def LA.p_own{k:LA}{i:Nat}{s:PA}(h:k.ps[i]?=some s):s.p∈k.own:=aah _ (aak.mpr (.inl (aap.mpr ⟨s,aaj h,rfl⟩)))
def LA.c_own{k:LA}(h:c∈k.cs):c∈k.own:=aah _ (aak.mpr (.inr h))
structure Mv(Z:LC)(k:LA)(H:Hp)(k':LA)(H':Hp):Prop where
 out:∀b o,H b=some o->b∉k.ls->Plain Z o->H' b=some o
 fr:∀l∈k'.ls,l∈k.ls\/H l=none
 gr:∀b,H' b=none->H b=none
 a:k'.a=k.a
 lp:k'.lp=k.lp
 oth:∀b o,H b=some o->b∉k.own->b∉k.ls->H' b=some o
 fro:∀b∈k'.own,b∈k.own\/H b=none
def Mv.refl:Mv Z k H k H:=⟨λ_ _ e _ _=>e,λ_ m=>.inl m,λ_ e=>e,rfl,rfl,λ_ _ e _ _=>e,λ_ m=>.inl m⟩
theorem e_(s:di H H')(e:H' b=none):H b=none:=by
 cases h:H b with
 |none=>rfl
 |some o=>rw[s _ _ h]at e;cases e
def Mv.same(s:di H H'):Mv Z k H k H':=⟨λ_ _ e _ _=>s _ _ e,λ_ m=>.inl m,λb e=>e_ s e,rfl,rfl,λ_ _ e _ _=>s _ _ e,λ_ m=>.inl m⟩
def Mv.trans(a:Mv Z k H g H')(b:Mv Z g H' f H''):Mv Z k H f H'':=by
 have d:∀c o,H c=some o->c∉k.ls->c∉g.ls:=λc o e n m=>by
  rcases a.fr c m with h|h
  ·exact n h
  ·rw[e]at h;cases h
 refine⟨λc o e n p=>b.out c o (a.out c o e n p) (d c o e n) p,λl m=>?_,λc e=>a.gr c (b.gr c e),b.a.trans a.a,b.lp.trans a.lp,λc o e i j=>b.oth c o (a.oth c o e i j) (λm=>?_) (d c o e j),λc m=>?_⟩
 ·rcases b.fr l m with h|h
  ·exact a.fr l h
  ·exact .inr (a.gr l h)
 ·rcases a.fro c m with h|h
  ·exact i h
  ·rw[e]at h;cases h
 ·rcases b.fro c m with h|h
  ·exact a.fro c h
  ·exact .inr (a.gr c h)
def Jc(h:eE Z H k n)(e:H b=some (.ins C d fs)):b∉k.ls:=by
 intro m;rcases aai.mp m with rfl|m
 ·have:=h.ls;rw[e]at this;cases this
 ·obtain⟨s,a,rfl⟩:=aap.mp m;obtain⟨i,c⟩:=aax.mp a;obtain⟨y,_,r⟩:=h.pg.at c;have:=r.ls;rw[e]at this;cases this
def vA(h:H b=some u)(e:upd H b o c=none):H c=none:=by
 by_cases z:c=b
 ·subst z;rw[a_]at e;cases e
 ·rw[c7 z]at e;exact e
def Mv.ins(e:H b=some (.ins C f fs))(i:C=Z.c\/C=Z.p\/C=Z.l)(j:b∈k.own):Mv Z k H k (upd H b o):=by
 refine⟨λc u d _ p=>?_,λ_ m=>.inl m,λc h=>vA e h,rfl,rfl,λc u d g _=>by rw[c7 (λz=>g (by rw[z];exact j))];exact d,λ_ m=>.inl m⟩;rw[c7 (λz=>by
  subst z;rw[e]at d;cases d;have:=p C f fs rfl;rcases i with h|h|h
  ·exact this.1 h
  ·exact this.2.1 h
  ·exact this.2.2 h)];exact d
def Mv.lst(e:H b=some (.lst m))(i:b∈k.ls)(q:d.a=k.a)(r:∀l∈d.ls,l∈k.ls\/H l=none)(s:∀c∈d.own,c∈k.own\/H c=none)(g:d.lp=k.lp:=by rfl):Mv Z k H d (upd H b o):=
 ⟨λc u f n p=>by rw[c7 (λz=>by subst z;exact n i)];exact f,r,λc h=>vA e h,q,g,λc u f _ j=>by rw[c7 (λz=>j (by rw[z];exact i))];exact f,s⟩
def Mv.lstN(s:di H f)(e:f b=some (.lst m))(i:b∈k.ls)(q:k'.a=k.a)(r:∀l∈k'.ls,l∈k.ls\/H l=none)(v:∀c∈k'.own,c∈k.own\/H c=none)(g:k'.lp=k.lp:=by rfl):Mv Z k H k' (upd f b o):=
 ⟨λc u d n p=>by rw[c7 (λz=>by subst z;exact n i)];exact s _ _ d,r,λc h=>e_ s (vA e h),q,g,λc u d _ j=>by rw[c7 (λz=>j (by rw[z];exact i))];exact s _ _ d,v⟩
end
def iU.ins(h:iU Z H c m):∃b fs,H c=some (.ins Z.c b fs):=by obtain⟨b,k,a,t,e,_⟩:=h.ex;exact⟨b,_,e⟩
def iU.upd(h:iU Z H c m)(q:Kt Z H (upd H b o))(ne:c≠b):iU Z (upd H b o) c m:=h.kt q (c7 ne)
def iZ.updP(d:Z.Ok)(h:iZ Z H s m)(e:H b=some (.ins Z.p n fs))(ne:s.p≠b):iZ Z (upd H b o) s m:=
 h.kt (Kt.ins e d.kp) (c7 ne) (c7 (λz=>by have:=h.ls;rw[z,e]at this;cases this)) λc f=>c7 λz=>by
  obtain⟨i,g⟩:=aax.mp f;obtain⟨y,_,r⟩:=h.cs.at g;obtain⟨j,l,a⟩:=r.ins;rw[z,e]at a;injection a with a
  injection a with a
  exact d.cp a.symm
def iZ.updN(f:Z.Ok)(h:iZ Z H s m)(e:H b=some (.ins Z.l n fs)):iZ Z (upd H b o) s m:=
 h.kt (Kt.ins e f.kl) (c7 (λz=>by
  obtain⟨d,a⟩:=h.ob;rw[z,e]at a;injection a with a
  injection a with a
  exact f.pl a.symm)) (c7 (λz=>by have:=h.ls;rw[z,e]at this;cases this)) λc g=>c7 λz=>by
  obtain⟨i,j⟩:=aax.mp g;obtain⟨y,_,r⟩:=h.cs.at j;obtain⟨d,l,a⟩:=r.ins;rw[z,e]at a;injection a with a
  injection a with a
  exact f.cl a.symm
def iZ.updL(h:iZ Z H s m)(e:H b=some (.lst l))(ne:s.l≠b):iZ Z (upd H b o) s m:=
 h.kt (Kt.lst e) (c7 (λz=>by
  obtain⟨d,a⟩:=h.ob;rw[z,e]at a;cases a)) (c7 ne) λc f=>c7 λz=>by
  obtain⟨i,g⟩:=aax.mp f;obtain⟨y,_,r⟩:=h.cs.at g;obtain⟨d,j,a⟩:=r.ins;rw[z,e]at a;cases a
def eE.setL(b:Z.Ok)(h:eE Z H k n)(e:H k.a=some (.ins Z.l c fs))(a:Ln)(d:a.pg=n.pg):eE Z (upd H k.a (.ins Z.l dx' (Ew k.lp a))) k a:=by
 refine⟨⟨_,a_⟩,?_,?_,h.n1,h.n2,h.n3⟩
 ·rw[c7 (λz=>by have:=h.ls;rw[z,e]at this;cases this)];exact h.ls
 ·rw[d];exact h.pg.map λ_ _ r=>r.updN b e
def Fy{b:Type}{a:List b}{i j:Nat}{x y:b}(nd:a.Nodup)(ne:i≠j)(c:a[i]?=some x)(d:a[j]?=some y):x≠y:=λz=>by subst z;exact ne ((ab8 (aar.mp c).1 nd).mp (c.trans d.symm))
theorem kZ{c:Type}:∀{b:List c}{i:Nat}{x:c},b[i]?=some x->b.set i x=b
 |[],_,_,e=>by simp at e
 |a::r,0,x,e=>by simp at e;subst e;rfl
 |a::r,i+1,x,e=>by rw[abz,kZ (i:=i) (by simpa using e)]
def eE.setP{Z:LC}{k:LA}{n:Ln}(d:Z.Ok)(h:eE Z H k n){i:Nat}{s:PA}{m m':Pg}{dx':Zl}(f:k.ps[i]?=some s)(w:n.pg[i]?=some m)(A:m'.cs=m.cs):eE Z (upd H s.p (.ins Z.p dx' (Jk s.l m'))) k {n with pg:=n.pg.set i m'}:=by
 obtain⟨y,g,r⟩:=h.pg.at f;rw[w]at g;cases g;obtain⟨C,e⟩:=r.ob;have o:(k.ps.map (·.p))[i]?=some s.p:=by rw[aao,f];rfl
 refine⟨?_,?_,?_,h.n1,h.n2,h.n3⟩
 ·obtain⟨dl,a⟩:=h.ob;refine⟨dl,?_⟩;rw[c7 (λz=>by
   rw[z,e]at a;injection a with a
   injection a with a
   exact d.pl a)];exact a
 ·rw[c7 (λz=>by have:=h.ls;rw[z,e]at this;cases this)];exact h.ls
 ·have pp:=Pd.setM (R:=iZ Z H) (R':=iZ Z (upd H s.p (.ins Z.p dx' (Jk s.l m')))) (x:=s) (y:=m') (xs:=k.ps) (ys:=n.pg) ?_ i (λj u v ne l q=>q.updP d e (Fy h.n1 ne (by rw[aao,l];rfl) o)) h.pg
  ·rw[kZ f]at pp;exact pp
  ·refine⟨⟨_,a_⟩,?_,?_⟩
   ·rw[c7 (λz=>by have:=r.ls;rw[z,e]at this;cases this)];exact r.ls
   ·rw[A];refine Pd.mapM (λc B y q=>q.upd (Kt.ins e d.kp) λz=>?_) r.cs;obtain⟨dx',p,b⟩:=q.ins;rw[z,e]at b;injection b with b
    injection b with b
    exact d.cp b.symm
def eY{a c:Type}(f:a->c){b:List a}{i:Nat}{s s':a}(d:b[i]?=some s)(e:f s'=f s):(b.set i s').map f=b.map f:=by rw[abA,e];exact kZ (by rw[aao,d];rfl)
theorem tU{c d:List PA}(h:c.Sublist d):(c.flatMap (·.cs)).Sublist (d.flatMap (·.cs)):=by
 induction h with
 |slnil=>exact abq _
 |cons a _ b=>rw[aaA];exact b.trans (List.sublist_append_right _ _)
 |cons_cons a _ b=>rw[aaA,aaA];exact(abq _).append b
theorem kj:∀{b:List PA}{i:Nat}{s s':PA},b[i]?=some s->s'.cs.Sublist s.cs->((b.set i s').flatMap (·.cs)).Sublist (b.flatMap (·.cs))
 |[],_,_,_,e,_=>by simp at e
 | a::r,0,s,s',e,h=>by simp at e;subst e;rw[abB,aaA,aaA];exact h.append (abq _)
 | a::r,i+1,s,s',e,h=>by rw[abz,aaA,aaA];exact(abq _).append (kj (i:=i) (by simpa using e) h)
def eE.ne_lp{k:LA}(h:eE Z H k n){i:Nat}{s:PA}(a:k.ps[i]?=some s):s.l≠k.lp:=λz=>by have:=(aaD.mp h.n2).1;exact this (by rw[<-z];exact aap.mpr ⟨s,aaj a,rfl⟩)
def eE.ne_l{k:LA}(h:eE Z H k n){i j:Nat}{s b:PA}(ne:i≠j)(c:k.ps[i]?=some s)(a:k.ps[j]?=some b):s.l≠b.l:=
 Fy (aaD.mp h.n2).2 ne (by rw[aao,c];rfl) (by rw[aao,a];rfl)
def eE.setPs{k:LA}(h:eE Z H k n){ps:List PA}{pg:List Pg}(hp:Pd (iZ Z H) ps pg)(ne:∀s∈ps,s.l≠k.lp)(n1:(ps.map (·.p)).Nodup)(n2:(ps.map (·.l)).Nodup)(n3:(ps.flatMap (·.cs)).Nodup):eE Z (upd H k.lp (.lst (ps.map λs=>V.ref s.p))) {k with ps:=ps} {n with pg:=pg}:=by
 obtain⟨dx,e⟩:=h.ob;refine⟨⟨dx,?_⟩,a_,Pd.mapM (λs ms y r=>r.updL h.ls (ne s ms)) hp,n1,?_,n3⟩
 ·show upd H k.lp _ k.a=_;rw[c7 (λz=>by have:=h.ls;rw[<-z,e]at this;cases this)];exact e
 ·refine aaD.mpr ⟨λm=>?_,n2⟩;obtain⟨s,ms,z⟩:=aap.mp m;exact ne s ms z
def eE.pop{k:LA}{n:Ln}(h:eE Z H k n)(i:Nat):eE Z (upd H k.lp (.lst ((k.ps.eraseIdx i).map λs=>V.ref s.p))) {k with ps:=k.ps.eraseIdx i} {n with pg:=n.pg.eraseIdx i}:=by have a:=ab9 k.ps i;refine h.setPs (h.pg.erase i) (λs b=>?_) (h.n1.sublist (a.map _)) ((aaD.mp h.n2).2.sublist (a.map _)) (h.n3.sublist (tU a));obtain⟨j,c⟩:=aax.mp (a.subset b);exact h.ne_lp c
def eE.page(h:eE Z H k n)(i:iZ Z H s m)(e:s.cs=[])(l:s.p∉k.ps.map (·.p))(nl:s.l∉k.ls):eE Z (upd H k.lp (.lst ((k.ps++[s]).map λs=>V.ref s.p))) {k with ps:=k.ps++[s]} {n with pg:=n.pg++[m]}:=by
 refine h.setPs (Pd.app (.cons i .nil) h.pg) (λo d=>?_) ?_ ?_ ?_
 ·rcases aak.mp d with d|d
  ·obtain⟨j,g⟩:=aax.mp d;exact h.ne_lp g
  ·cases aam.mp d;exactλz=>nl (by rw[z];exact aal ..)
 ·rw[aaw];exact aa9.mpr ⟨h.n1,by simp,λa f b c z=>by
   have c:b=s.p:=by simpa using c
   rw[z,c]at f;exact l f⟩
 ·rw[aaw];exact aa9.mpr ⟨(aaD.mp h.n2).2,by simp,λa f b c z=>by
   have c:b=s.l:=by simpa using c
   rw[z,c]at f;exact nl (aah _ f)⟩
 ·rw[aaU];have:[s].flatMap (·.cs)=[]:=by simp[e]
  rw[this,aaQ];exact h.n3
theorem Ho{d:Type}{z:d}:∀{c:List d}{i:Nat},c.Nodup->z∉c->(c.set i z).Nodup
 |[],_,_,_=>by simp
 |a::r,0,b,nm=>aaD.mpr ⟨λm=>nm (aah _ m),(aaD.mp b).2⟩
 | a::r,i+1,b,nm=>by
   obtain⟨e,f⟩:=aaD.mp b;refine aaD.mpr ⟨λm=>?_,Ho f λm=>nm (aah _ m)⟩;rcases abf m with m|m
   ·exact e m
   ·exact nm (by rw[m];exact aal ..)
def eE.setI{H:Hp}{k:LA}{n:Ln}(h:eE Z H k n){d:Hp}{i:Nat}{s s':PA}{m':Pg}(f:k.ps[i]?=some s)(g:s'.p=s.p)(c:s'.l=s.l\/s'.l∉k.ls)(p:((k.ps.set i s').flatMap (·.cs)).Nodup)(q:iZ Z d s' m')
 (r:∀o,H k.a=some o->d k.a=some o)(w:∀o,H k.lp=some o->d k.lp=some o)(x:∀j u v,j≠i->k.ps[j]?=some u->iZ Z H u v->iZ Z d u v):eE Z d {k with ps:=k.ps.set i s'} {n with pg:=n.pg.set i m'}:=by
 obtain⟨l,e⟩:=h.ob;refine⟨⟨l,r _ e⟩,?_,Pd.setM q i x h.pg,?_,?_,p⟩
 ·have:=w _ h.ls;show d k.lp=some (.lst ((k.ps.set i s').map λs=>V.ref s.p));rw[eY (λs:PA=>V.ref s.p) f (by rw[g])];exact this
 ·show((k.ps.set i s').map (·.p)).Nodup;rw[eY (·.p) f g];exact h.n1
 ·show(k.lp::(k.ps.set i s').map (·.l)).Nodup;rcases c with c|c
  ·rw[eY (·.l) f c];exact h.n2
  ·obtain⟨a,b⟩:=aaD.mp h.n2;have y:i<k.ps.length:=(aar.mp f).1;refine aaD.mpr ⟨λm=>?_,?_⟩
   ·rw[abA]at m;rcases abf m with m|m
    ·exact a m
    ·exact c (by rw[<-m];exact aal ..)
   ·rw[abA];exact Ho b (λm=>c (aah _ m))
def Lq{k:LA}{ps:List PA}(h:ps.Sublist k.ps)(mc:c∈({k with ps:=ps}:LA).own):c∈k.own:=by
 rcases aai.mp mc with rfl|mc
 ·exact aal ..
 ·rcases aak.mp mc with mc|mc
  ·exact aah _ (aak.mpr (.inl ((h.map _).subset mc)))
  ·exact aah _ (aak.mpr (.inr ((tU h).subset mc)))
def qU(c:X.K=K)(d:PE X e b)(g:attributeBase e f X.env (eval e X.env)=eval e X.env):PE X (.Attribute e f a) (K8 K b f):=by subst c;exact dq d g
structure MD(K:Zs)(C:Zl)(m qual:Str)(st:Stmt)(ps:Y2)(f:Zl)(fd:ZB):Prop where
 M:Meth K C m f
 F:ir K m qual st f fd
 b:Binds K fd ps []
abbrev cM(j:Nat):Stmt:=inClass (top 56) j
abbrev gM(j:Nat):Stmt:=inClass (top 57) j
abbrev lM(j:Nat):Stmt:=inClass (top 58) j
structure LZ(K:Zs)(mg:Y1)(Z:LC):Prop where
 ok:Z.Ok
 kc:KCls K mg Z.k
 cc:vh K Z.c
 cmg:mg "Claim"=some (.ref Z.c)
 c1:g8 K Z.c "ticket"
 c2:g8 K Z.c "time"
 c3:g8 K Z.c "form"
 c4:g8 K Z.c "filled"
 c5:g8 K Z.c "given"
 pc:vh K Z.p
 pmg:mg "Page"=some (.ref Z.p)
 p1:g8 K Z.p "claims"
 p2:g8 K Z.p "used"
 p3:g8 K Z.p "gone"
 lc:vh K Z.l
 lmg:mg "Lane"=some (.ref Z.l)
 l1:g8 K Z.l "most"
 l2:g8 K Z.l "room"
 l3:g8 K Z.l "over"
 l4:g8 K Z.l "pages"
 l5:g8 K Z.l "held"
 l6:g8 K Z.l "told"
 l7:g8 K Z.l "last_time"
 l8:g8 K Z.l "tickets"
 l9:g8 K Z.l "given_in"
 l10:g8 K Z.l "thrown_back"
 l11:g8 K Z.l "lost"
 l12:g8 K Z.l "missed"
def gY(h:H x=none)(c:H a=none)(k:∀b u,upd (upd H a (.own x)) x o b=some u->b≠x->f b=some u):di H f:=λb u e=>by have d:b≠x:=dg e h;have g:b≠a:=dg e c;exact k b u (by rw[c7 d,c7 g];exact e) d
section
variable{P:ZE}{w:ZH}{K:Zs}{mg:Y1}{base:ZN}{Z:LC}
inductive Ji(Z:LC)(vs:List V)(H:Hp)(Q:VK)(E:XK):Prop
 |mk (o dx:Zl):vs=[.ref o]->H o=some (.ins Z.p dx [])->(∀l H',H l=none->H' o=some (.ins Z.p dx (Jk l ⟨[],0,0⟩))->H' l=some (.lst [])->(∀b u,H b=some u->b≠o->H' b=some u)->Q .non H')->Ji Z vs H Q E
def X_:du ["self"] ["self"] (b_ (gM 0)):=by ext
def Gn(F:ir K "__init__" "Page.__init__" (gM 0) f m)(L:LZ K mg Z):dm P w K mg base dU 1 f m ["self"] (Ji Z):=by
 refine F.ok X_ (by ext) λn A c s H vs Q E p h=>?_;obtain⟨o,g,rfl,j,k⟩:=h;refine⟨_,(bK (dY (pv 0) (gC cZ) rfl) (bK (dY (pv 0) dh rfl) (d8 (dY (pv 0) dh rfl)))),?_⟩;refine⟨(by ext),λl d=>?_⟩;have a:o≠l:=dg j d;refine⟨_,rfl,o,Z.p,g,[],rfl,(by rw[c7 a];exact j),L.pc,L.p1,(show 0<1000 by decide),?_⟩;refine⟨_,rfl,o,Z.p,g,_,rfl,a_,L.pc,L.p2,(show 1<1000 by decide),?_⟩;refine⟨_,rfl,o,Z.p,g,_,rfl,a_,L.pc,L.p3,(show 2<1000 by decide),?_⟩;refine k l _ d a_ ?_ ?_
 ·rw[c7 a.symm,c7 a.symm,c7 a.symm,a_]
 ·intro b u e i;rw[c7 i,c7 i,c7 i,c7 (dg e d)];exact e
noncomputable def vR(cs:List Cl):List Cl:=cs.filter λc=>!c.gv
inductive Ha(Z:LC)(vs:List V)(H:Hp)(Q:VK)(E:XK):Prop
 |mk (s:PA) (m:Pg):vs=[.ref s.p]->iZ Z H s m->s.cs.length<=1000->(∀(l:Zl)(as:YI)(H':Hp),di H H'->H' l=some (.lst (as.map V.ref))->Pd (iU Z H') as (vR m.cs)->as.Sublist s.cs->Q (.ref l) H')->Ha Z vs H Q E
def YF:du ["self"] ["self"] (b_ (gM 1)):=by ext
def BP(B:d a=some (.lst (cs.map V.ref)))(y:Pd (iU Z d) cs l)(C:cs.length<=1000)(f:Cl->Bool)
 (D:∀c m,iU Z d c m->∀Q:Bool->Hp->Prop,Q (f m) d->v (some (.ref c)::σr) d Q)(E:∀b,Pd (iU Z d) b (l.filter f)->b.Sublist cs->F (b.map V.ref) d):
 ∃W:Nat->Nat->List V->St->Hp->Prop,(∃m,W 0 m [] (none::σr) d)/\rO (Yd K a) (eN 0) v (oY 0) F W:=by
 have z:=y.len;refine oO (xs:=cs.map V.ref) (λi ys n H=>H=d/\(∃u,n=u::σr)/\∃b,ys=b.map V.ref/\Pd (iU Z d) b ((l.take i).filter f)/\b.Sublist (cs.take i)) (by rw[aad];exact aag C (by decide)) ⟨rfl,⟨none,rfl⟩,[],rfl,.nil,abq _⟩ (λi ys n H _ h=>by rw[h.1];exact fj.of B) ?_ ?_
 ·rintro i x ys n H j⟨rfl,⟨u,rfl⟩,b,rfl,e,g⟩N s;rw[aao]at j;obtain⟨c,q,rfl⟩:∃c,cs[i]?=some c/\V.ref c=x:=by
   cases hj:cs[i]? with
   |none=>rw[hj]at j;cases j
   |some c=>rw[hj]at j;exact⟨c,rfl,by simpa using j⟩
  obtain⟨m,A,r⟩:=y.at q;dsimp only[eN,List.set];refine D c m r _ ?_;have o:cs.take (i+1)=cs.take i++[c]:=by rw[aaT,q];rfl
  have p:l.take (i+1)=l.take i++[m]:=by rw[aaT,A];rfl
  cases hf:f m with
  | true=>
    rw[aac rfl];refine⟨_,rfl,s _ _ _ ⟨rfl,⟨_,rfl⟩,b++[c],by rw[aaw];rfl,?_,?_⟩ (by rw[aas];exact aaf _)⟩
    ·rw[p,abj];have:[m].filter f=[m]:=by simp[hf]
     rw[this];exact Pd.app (.cons r .nil) e
    ·rw[o];exact g.append (abq _)
  | false=>
    rw[aab (by decide)];refine s _ _ _ ⟨rfl,⟨_,rfl⟩,b,rfl,?_,?_⟩ (by omega)
    ·rw[p,abj];have:[m].filter f=[]:=by simp[hf]
     rw[this,aaQ];exact e
    ·rw[o];exact g.trans (List.sublist_append_left _ _)
 ·rintro ys n H _⟨rfl,_,b,rfl,e,g⟩;rw[aad]at e g;rw[z,aaL]at e;rw[aaL]at g;exact E b e g
def Nx(F:ir K "unclosed" "Page.unclosed" (gM 1) f v)(L:LZ K mg Z):dm P w K mg base dU 1 f v ["self"] (Ha Z):=by
 refine F.ok YF (by ext) λx A d s H vs Q E I h=>?_;obtain⟨s,m,rfl,b,l,k⟩:=h;obtain⟨z,B⟩:=b.ob;refine⟨_,(d8 (dw (jb (g:=eN 0) (own:=["claim"]) (js:=[]) (N':=["claim"]) (dX.of (osc:=b_ (gM 1)) (N:=["self"]) rfl rfl (by ext)) rfl (h_ (dq (pv 0) (by rfl))) (λ_ _ _ _ _=>(fZ (i:=0) (show List.Nodup (["claim"]:Y2) by ext) rfl (.inl rfl) (.inr rfl))) (λ_ _ _ _ _=>mC (jm (iT (qU (K:=K) rfl (pv 0) rfl)))) (λ_ _ _ _ _=>pv 0)))),?_⟩;refine⟨_,rfl,s.p,Z.p,z,_,_,rfl,B,L.pc,L.p1,rfl,s.l,rfl,⟨_,fj.of b.ls⟩,?_⟩;refine BP (σr:=[]) b.ls b.cs l (λc=>!c.gv) ?_ ?_
 ·intro c m r J D;obtain⟨C,kk,a,t,e,_⟩:=r.ex;exact⟨_,rfl,c,Z.c,C,_,_,rfl,e,L.cc,L.c5,rfl,_,rfl,D⟩
 ·intro n G q;refine⟨by rw[aad];exact aag (aag q.length_le l) (by decide),λp y=>?_⟩;have j:=di.new (o:=.lst (n.map V.ref)) y;exact k p n _ j a_ (G.map λ_ _ r=>r.same j) q
noncomputable def Ru(tk:Int)(cs:List Cl):List Cl:=cs.filter λc=>decide (c.tk≠tk)
inductive Ra(Z:LC)(vs:List V)(H:Hp)(Q:VK)(E:XK):Prop
 |mk (s:PA) (m:Pg) (tk:Int):vs=[.ref s.p,.int tk]->iZ Z H s m->s.cs.length<=1000->(∀(l:Zl)(as:YI)(H':Hp),di H H'->H l=none->H' l=some (.lst (as.map V.ref))->Pd (iU Z H') as (Ru tk m.cs)->as.Sublist s.cs->Q (.ref l) H')->Ra Z vs H Q E
def Yp:du ["self","ticket"] ["self","ticket"] (b_ (gM 2)):=by ext
def S_(F:ir K "without" "Page.without" (gM 2) f y)(L:LZ K mg Z):dm P w K mg base dU 1 f y ["self","ticket"] (Ra Z):=by
 refine F.ok Yp (by ext) λz A d s H vs Q E I h=>?_;obtain ⟨s,m,tk,rfl,b,n,k⟩:=h;obtain ⟨B,C⟩:=b.ob;refine ⟨_,(d8 (dw (jb (g:=eN 0) (own:=["claim"]) (js:=[1]) (N':=["claim","ticket"]) (dX.of (osc:=b_ (gM 2)) (N:=["self","ticket"]) rfl rfl (by ext)) rfl (h_ (dq (pv 0) (by rfl))) (λ_ _ _ _ _=>(fZ (i:=0) (show List.Nodup (["claim","ticket"]:Y2) by ext) rfl (.inl rfl) (.inr rfl))) (λ_ _ _ _ _=>mC (dM uw (qU (K:=K) rfl (pv 0) rfl) (pv 1) (dN _))) (λ_ _ _ _ _=>pv 0)))),?_⟩;refine ⟨_,rfl,s.p,Z.p,B,_,_,rfl,C,L.pc,L.p1,rfl,s.l,rfl,⟨_,fj.of b.ls⟩,?_⟩;refine BP (σr:=[some (.int tk)]) b.ls b.cs n (λc=>decide (c.tk≠tk)) ?_ ?_
 ·intro c m r J q;obtain ⟨D,kk,a,t,e,_⟩:=r.ex;refine ⟨_,rfl,c,Z.c,D,_,_,rfl,e,L.cc,L.c1,rfl,_,rfl,rfl,_,rfl,?_⟩;have:(!decide (V.int m.tk=V.int tk))=decide (m.tk≠tk):=by simp
  rw [<-this]at q;exact q
 ·intro v G x;refine ⟨by rw [aad];exact aag (aag x.length_le n) (by decide),λp j=>?_⟩;have l:=di.new (o:=.lst (v.map V.ref)) j;exact k p v _ l j a_ (G.map λ_ _ r=>r.same l) x
structure tO(nm:Str)(fs:List ji):Prop where
 nm:Nm nm
 le:fs.length<=4
 ok:∀f∈fs,nU f
 nd:(fs.map (·.1)).Nodup
noncomputable def gh(tk a:Int)(nm:Str)(fs:List ji):Cl:=⟨tk,a,nm,fs,fs.map (·.2.1),false⟩
inductive JK(Z:LC)(vs:List V)(H:Hp)(Q:VK)(E:XK):Prop
 |mk (o dx kd a:Zl) (tk tm:Int) (nm:Str) (fs:List ji):vs=[.ref o,.int tk,.int tm,.ref kd]->H o=some (.ins Z.c dx [])->gZ Z.k H kd nm a fs->tO nm fs->(∀H',iU Z H' o (gh tk tm nm fs)->(∀b u,H b=some u->b≠o->H' b=some u)->Q .non H')->JK Z vs H Q E
def W_:du ["self","ticket","time","kind"] ["self","ticket","time","kind"] (b_ (cM 0)):=by ext
def gZ.keep(h:gZ Z.k H k nm a j)(e:H o=some (.ins C n d))(ne:Z.k≠C)(kp:∀b u,H b=some u->b≠o->i b=some u):gZ Z.k i k nm a j:=by
 obtain⟨⟨dk,c⟩,l,g,m⟩:=h;refine⟨⟨dk,kp _ _ c λz=>?_⟩,l,kp _ _ g (j9 g e (by intro z;cases z)),j7 m λb ys f=>kp _ _ f (j9 f e (by intro z;cases z))⟩;rw[z,e]at c;injection c with c
 injection c with c
 exact ne c.symm
def Uu(F:ir K "__init__" "Claim.__init__" (cM 0) f fd)(L:LZ K mg Z)(M:Mk K Z.k fI)(GI:dm P w K mg base dU 4 fI B ["self","name","fields"] (v_ Z.k))(bI:Binds K B ["self","name","fields"] [])(ML:MD K Z.k "lowest" "Kind.lowest" (kM 1) ["self"] fL C)(GL:dm P w K mg base dU 1 fL C ["self"] (tH Z.k)):dm P w K mg base dU 6 f fd ["self","ticket","time","kind"] (JK Z):=by
 refine F.ok W_ (by ext) λJ A N s H vs Q E hr h=>?_;obtain⟨o,c,kd,a,tk,l,nm,fs,rfl,ho,ka,v,k⟩:=h;have T:eZ 1 _:=hr.mono (by decide);refine⟨_,(bK (dY (pv 0) (pv 1) rfl) (bK (dY (pv 0) (pv 2) rfl) (bK (dY (pv 0) (lL M GI hr rfl L.kc.mg bI .nil dR (aK (dq (pv 3) rfl) (aK (dq (pv 3) rfl) cZ))) rfl) (bK (dY (pv 0) (gb (pv 3) L.kc.cl ML.M GL T ML.b .nil dR) rfl) (d8 (dY (pv 0) lD rfl)))))),?_⟩;have D:=L.ok.kc;refine⟨_,rfl,_,rfl,o,Z.c,c,[],rfl,ho,L.cc,L.c1,(show 0<1000 by decide),?_⟩;refine⟨_,rfl,_,rfl,o,Z.c,c,_,rfl,a_,L.cc,L.c2,(show 1<1000 by decide),?_⟩;generalize i:upd (upd H o (.ins Z.c c (gJ "ticket" (.int tk) []))) o (.ins Z.c c (gJ "time" (.int l) (gJ "ticket" (.int tk) [])))=y;have k2:∀b u,H b=some u->b≠o->y b=some u:=λb u e d=>by rw[<-i,c7 d,c7 d];exact e
 have e2:y o=some (.ins Z.c c [("ticket",.int tk),("time",.int l)]):=by rw[<-i,a_];rfl
 clear i;have q:=ka.keep ho D k2;obtain⟨⟨dk,ek⟩,xs,et,pf⟩:=id q;refine⟨_,rfl,kd,Z.k,dk,_,_,rfl,ek,L.kc.cl,L.kc.nN,vQ nm a,_,rfl,kd,Z.k,dk,_,_,rfl,ek,L.kc.cl,L.kc.nF,kE nm a,λx g hx m O=>?_⟩;have s3:di y (upd (upd y g (.own x)) x (.ins Z.k g [])):=(di.new m).trans (di.new (by rw[c7 O.symm];exact hx));refine⟨x,g,a,nm,xs,fs,rfl,a_,v.nm,s3 _ _ et,j7 pf (λb ys e=>s3 _ _ e),v.le,v.ok,v.nd,λR S k4=>⟨rfl,?_⟩⟩;have G:di y R:=gY hx m k4;refine⟨_,rfl,o,Z.c,c,_,rfl,G _ _ e2,L.cc,L.c3,(show 2<1000 by decide),?_⟩;generalize j:upd R o (.ins Z.c c (gJ "form" (.ref x) [("ticket",.int tk),("time",.int l)]))=I;have e4:=G _ _ e2;have U:∀b u,R b=some u->b≠o->I b=some u:=λb u e d=>by rw[<-j,c7 d];exact e
 have W:I o=some (.ins Z.c c [("ticket",.int tk),("time",.int l),("form",.ref x)]):=by rw[<-j,a_];rfl
 clear j;have X:gZ Z.k I x nm a fs:=S.keep e4 D U;have r:gZ Z.k I kd nm a fs:=(q.kt (di.kt G)).keep e4 D U;obtain⟨⟨aa,ab⟩,_⟩:=id r;refine⟨_,rfl,kd,aa,_,rfl,ab,sY nm a (by ext) (by ext),kd,a,nm,fs,rfl,r,v.le,λp H6 hp n=>?_⟩;refine⟨_,rfl,o,Z.c,c,_,rfl,n _ _ W,L.cc,L.c4,(show 3<1000 by decide),?_⟩;refine⟨_,rfl,o,Z.c,c,_,rfl,a_,L.cc,L.c5,(show 4<1000 by decide),?_⟩;have Y:p≠o:=j9 hp (n _ _ W) (by intro z;cases z);have k7:∀b u,H6 b=some u->b≠o->(upd (upd H6 o (.ins Z.c c (gJ "filled" (.ref p) [("ticket",.int tk),("time",.int l),("form",.ref x)]))) o (.ins Z.c c (gJ "given" (.bl false) (gJ "filled" (.ref p) [("ticket",.int tk),("time",.int l),("form",.ref x)])))) b=some u:=λb u e d=>by rw[c7 d,c7 d];exact e
 refine k _ ⟨c,x,a,p,a_,(X.kt (di.kt n)).keep (n _ _ W) D k7,?_⟩ ?_
 ·refine k7 _ _ (hp.trans ?_) Y;show some (HO.tup (fs.map λf=>V.int f.2.1))=some (.tup ((fs.map (·.2.1)).map V.int));rw[aby];rfl
 ·exactλb u e d=>k7 _ _ (n _ _ (U _ _ (G _ _ (k2 _ _ e d)) d)) d
end
noncomputable def wZ(n:Ln):Nat:=if n.held then 1 else 0
noncomputable def t_(i:Nat)(n:Ln):Ln:=match n.pg[i]?,n.pg[i+1]? with
 |some p,some q=>{n with pg:=(n.pg.eraseIdx i).set i {q with go:=q.go+(p.go+p.cs.length)}}
 |_,_=>n
noncomputable def rK(n:Ln):Ln:=t_ (wZ n) {n with los:=n.los+((n.pg[wZ n]?.map (·.cs.length)).getD 0:Nat)}
theorem Jh{b c:Type}(f:b->c):∀(a:List b)(i:Nat),(a.eraseIdx i).map f=(a.map f).eraseIdx i
 |[],_=>rfl
 |_::_,0=>rfl
 |x::r,i+1=>by rw[aci,aat,aat,aci,Jh f r i]
theorem J1{b:Type}:∀(a:List b)(i:Nat),(a.eraseIdx i)[i]?=a[i+1]?
 |[],_=>rfl
 |_::_,0=>by simp
 |x::r,i+1=>by rw[aci];simpa using J1 r i
section
variable{P:ZE}{w:ZH}{K:Zs}{mg:Y1}{base:ZN}{Z:LC}
inductive Ls(Z:LC)(vs:List V)(H:Hp)(Q:VK)(E:XK):Prop
 |mk (k:LA) (n:Ln):vs=[.ref k.a]->eE Z H k n->Q (.int (wZ n:Nat)) H->Ls Z vs H Q E
def Xx:du ["self"] ["self"] (b_ (lM 3)):=by ext
theorem O4(F:ir K "eldest" "Lane.eldest" (lM 3) f b)(L:LZ K mg Z):dm P w K mg base dU 1 f b ["self"] (Ls Z):=by
 refine F.ok Xx (by ext) λc A a s H vs Q E i h=>?_;obtain⟨k,n,rfl,d,q⟩:=h;obtain⟨g,e⟩:=d.ob;refine⟨_,(d8 (dw (kO (iT (dq (pv 0) rfl)) dh dh))),?_⟩;refine⟨_,rfl,k.a,Z.l,g,_,_,rfl,e,L.lc,L.l5,rfl,_,rfl,?_⟩;unfold wZ at q;cases hh:n.held with
 |true=>rw[hh]at q;exact j5 rfl q
 |false=>rw[hh]at q;exact gW rfl q
inductive Rm(Z:LC)(vs:List V)(H:Hp)(Q:VK)(E:XK):Prop
 |mk (k:LA) (n:Ln) (i:Nat):vs=[.ref k.a,.int (i:Nat)]->eE Z H k n->i+1<n.pg.length->n.pg.length<=1000->(∀k' H',eE Z H' k' (t_ i n)->Mv Z k H k' H'->Q .non H')->Rm Z vs H Q E
def QJ:du ["self","number","page","later"] ["self","number"] (b_ (lM 5)):=by ext
def TV(F:ir K "leave" "Lane.leave" (lM 5) f Y)(T:Txt K mg)(L:LZ K mg Z):dm P w K mg base dU 1 f Y ["self","number"] (Rm Z):=by
 refine F.ok QJ (by ext) λaa A B s H vs Q E hr h=>?_;obtain⟨k,n,i,rfl,d,hi,hl,q⟩:=h;refine⟨_,(bK (jj 2 QJ.nd (lE aaZ PySem.F.slot_list_pop PySem.F.type_list_pop J0 (dq (pv 0) rfl) (aK (pv 1) cZ))) (bK (jj 3 QJ.nd (dZ g_ (dq (pv 0) rfl) (pv 1))) (d8 (jh (pv 3) (fX iI (dq (pv 2) rfl) (dD dO (by rfl) T.len gD (aK (dq (pv 2) rfl) cZ))) nP)))),?_⟩;obtain⟨dx,e⟩:=d.ob;have pl:=d.pg.len;obtain⟨r,m⟩:∃s,k.ps[i]?=some s:=⟨_,aaz (by omega)⟩;obtain⟨I,x⟩:∃s,k.ps[i+1]?=some s:=⟨_,aaz (by omega)⟩;obtain⟨z,J,S⟩:=d.pg.at m;obtain⟨U,y,r1⟩:=d.pg.at x;have ex:(k.ps.map λs=>V.ref s.p)[i]?=some (.ref r.p):=by rw[aao,m];rfl
 refine⟨_,rfl,k.a,Z.l,dx,_,_,rfl,e,L.lc,L.l4,rfl,.inl ⟨rfl,_,fj.of d.ls⟩,_,rfl,k.lp,_,_,i,_,rfl,rfl,d.ls,by omega,by omega,?_,ex,?_⟩
 ·rw[aad];unfold seqIndex?;simp;omega
 rw[<-Jh];have b:=d.pop i;have j:iZ Z (upd H k.lp (.lst ((k.ps.eraseIdx i).map λs=>V.ref s.p))) r z:=S.updL d.ls (d.ne_lp m);have v:Mv Z k H {k with ps:=k.ps.eraseIdx i} (upd H k.lp (.lst ((k.ps.eraseIdx i).map λs=>V.ref s.p))):=Mv.lst d.ls (aal ..) rfl (λl C=>by
  rcases aai.mp C with rfl|C
  ·exact .inl (aal ..)
  ·exact .inl (aah _ (((ab9 k.ps i).map _).subset C))) (λc mc=>.inl (Lq (ab9 k.ps i) mc));generalize upd H k.lp (.lst ((k.ps.eraseIdx i).map λs=>V.ref s.p))=H1 at b j v|-;have a:(k.ps.eraseIdx i)[i]?=some I:=by rw[J1];exact x
 have g:(n.pg.eraseIdx i)[i]?=some U:=by rw[J1];exact y
 obtain⟨o,p,M⟩:=b.pg.at a;have:o=U:=by have:=p.symm.trans g;injection this
 subst this;obtain⟨N,e1⟩:=b.ob;obtain⟨O,R⟩:=M.ob;obtain⟨W,X⟩:=j.ob;have D:((k.ps.eraseIdx i).map λs=>V.ref s.p)[i]?=some (.ref I.p):=by rw[aao,a];rfl
 refine⟨_,rfl,k.a,Z.l,N,_,_,rfl,e1,L.lc,L.l4,rfl,_,rfl,k.lp,_,_,_,rfl,rfl,fj.of b.ls,dz D,?_⟩;refine⟨_,rfl,I.p,Z.p,O,_,_,rfl,R,L.pc,L.p3,rfl,?_⟩;refine⟨_,rfl,r.p,Z.p,W,_,_,rfl,X,L.pc,L.p3,rfl,_,rfl,r.p,Z.p,W,_,_,rfl,X,L.pc,L.p1,rfl,r.l,_,rfl,.inl (fj.of j.ls),_,_,rfl,rfl,_,_,rfl,rfl,O,_,R,(show 3<1000 by decide),?_⟩;have G:=b.setP L.ok (dx':=O) a g (m':={o with go:=o.go+(z.go+z.cs.length)}) rfl;have ec:(r.cs.map V.ref).length=z.cs.length:=by rw[aad];exact S.cs.len
 rw[ec];refine q {k with ps:=k.ps.eraseIdx i} _ ?_ (v.trans (Mv.ins R (.inr (.inl rfl)) (LA.p_own (k:={k with ps:=k.ps.eraseIdx i}) a)));unfold t_;rw[J,y];exact G
inductive Qx(Z:LC)(vs:List V)(H:Hp)(Q:VK)(E:XK):Prop
 |mk (k:LA) (n:Ln):vs=[.ref k.a]->eE Z H k n->wZ n+1<n.pg.length->n.pg.length<=1000->(∀k' H',eE Z H' k' (rK n)->Mv Z k H k' H'->Q .non H')->Qx Z vs H Q E
def WW:du ["self"] ["self"] (b_ (lM 4)):=by ext
def Vj(F:ir K "lose_eldest" "Lane.lose_eldest" (lM 4) f I)(T:Txt K mg)(L:LZ K mg Z)(l:MD K Z.l "eldest" "Lane.eldest" (lM 3) ["self"] D i)(y:MD K Z.l "leave" "Lane.leave" (lM 5) ["self","number"] G j):dm P w K mg base dU 2 f I ["self"] (Qx Z):=by
 have z:dm P w K mg base dU 1 D i ["self"] (Ls Z):=O4 l.F L;have O:dm P w K mg base dU 1 G j ["self","number"] (Rm Z):=TV y.F T L;refine F.ok WW (by ext) λJ A o s H vs Q E p h=>?_;obtain⟨k,n,rfl,b,U,W,q⟩:=h;refine⟨_,(bK (jh (pv 0) (dD dO (by rfl) T.len gD (aK (dq (dZ g_ (dq (pv 0) rfl) (gb (pv 0) L.lc l.M z p l.b .nil dR)) rfl) cZ)) nP) (d8 (fc (eO (pv 0) L.lc y.M O p y.b .nil dR (aK (gb (pv 0) L.lc l.M z p l.b .nil dR) cZ))))),?_⟩;obtain⟨c,e⟩:=b.ob;have pl:=b.pg.len;obtain⟨m,d⟩:∃s,k.ps[wZ n]?=some s:=⟨_,aaz (by omega)⟩;obtain⟨B,v,x⟩:=b.pg.at d;obtain⟨X,Y⟩:=x.ob;have R:(k.ps.map λs=>V.ref s.p)[wZ n]?=some (.ref m.p):=by rw[aao,d];rfl
 have S:(m.cs.map V.ref).length=B.cs.length:=by rw[aad];exact x.cs.len
 refine⟨_,rfl,k.a,Z.l,c,_,_,rfl,e,L.lc,L.l11,rfl,_,rfl,k.a,Z.l,c,_,_,rfl,e,L.lc,L.l4,rfl,_,rfl,k.a,c,_,rfl,e,rfl,k,n,rfl,b,k.lp,_,_,_,rfl,rfl,fj.of b.ls,dz R,m.p,Z.p,X,_,_,rfl,Y,L.pc,L.p1,rfl,m.l,_,rfl,.inl (fj.of x.ls),_,_,rfl,rfl,c,_,e,(show 12<1000 by decide),?_⟩;rw[S];have a:=b.setL L.ok (dx':=c) e {n with los:=n.los+(B.cs.length:Int)} rfl;obtain⟨g,C⟩:=a.ob;refine⟨_,rfl,k.a,g,_,rfl,C,rfl,_,rfl,k.a,g,_,rfl,C,rfl,k,_,rfl,a,?_⟩;refine⟨k,_,wZ n,rfl,a,U,W,λM N r mv=>q M N ?_ ((Mv.ins e (.inr (.inr rfl)) LA.a_own).trans mv)⟩;unfold rK;rw[v];exact r
end
noncomputable def o9(n:Ln):Ln:={n with pg:=n.pg++[⟨[],0,0⟩]}
noncomputable def Lx(n:Ln):Int:=(n.pg[n.pg.length-1]?.map (·.us)).getD 0
noncomputable def Yx(n:Ln):List Cl:=(n.pg[wZ n]?.map (·.cs)).getD []
noncomputable def iM(c:Int)(n:Ln):Bool×Ln:=
 if Lx n+c<=n.room then(true,n)
 else if n.most<=(n.pg.length:Int)-wZ n then
  if(!n.over||!(vR (Yx n)).isEmpty)=true then(false,n)else(true,o9 (rK n))
 else(true,o9 n)
noncomputable def sI(c:Cl)(a:Int)(n:Ln):Ln:=match n.pg[n.pg.length-1]? with
 |none=>n
 |some h=>{n with pg:=n.pg.set (n.pg.length-1) {h with cs:=h.cs++[c],us:=h.us+a}}
noncomputable def n7(nm:Str)(fs:List ji)(a:Int)(n:Ln):Option Int×Ln:=
 let b:Ln:={n with last:=some a,tks:=n.tks+1}
 let r:=iM (1+(fs.length:Int)) b
 if r.1=true then(some r.2.tks,sI (gh r.2.tks a nm fs) (1+(fs.length:Int)) r.2)else(none,{r.2 with mis:=r.2.mis+1})
def JD{a:List V}{x:V}:qF (a++[x]) (-1)=some x:=by unfold qF KH;simp;rw[aac (by omega),show(-1+((a.length:Int)+1)).toNat=a.length by omega];show(a++[x])[a.length]?=_;rw[abY (by simp)];simp
def nY{a:List V}(h:a[a.length-1]?=some y):qF a (-1)=some y:=by
 rcases acW a with rfl|⟨r,x,rfl⟩
 ·simp at h
 ·rw[acX]at h|-;have e:(r++[x])[(r++[x]).length-1]?=some x:=by simp
  rw[e]at h;injection h with h
  subst h;exact JD
theorem qi:∀{b:List PA}{i:Nat}{s:PA}{c:Zl},b[i]?=some s->((b.set i {s with cs:=s.cs++[c]}).flatMap (·.cs)).Perm (c::b.flatMap (·.cs))
 |[],_,_,_,e=>by simp at e
 | a::r,0,s,c,e=>by simp at e;subst e;rw[abB,aaA,aaA];show(a.cs++[c]++_).Perm _;rw[acr];exact List.perm_middle
 | a::r,i+1,s,c,e=>by rw[abz,aaA,aaA];exact((qi (i:=i) (by simpa using e)).append_left _).trans List.perm_middle
section
variable{P:ZE}{w:ZH}{K:Zs}{mg:Y1}{base:ZN}{Z:LC}
def eE.not_ls(h:eE Z H k n)(e:H b=some o)(a:∀c,o≠.lst c):b∉k.ls:=by
 intro m;rcases aai.mp m with rfl|m
 ·have:=h.ls;rw[e]at this;cases this;exact a _ rfl
 ·obtain⟨s,d,rfl⟩:=aap.mp m;obtain⟨i,f⟩:=aax.mp d;obtain⟨y,_,r⟩:=h.pg.at f;have:=r.ls;rw[e]at this;cases this;exact a _ rfl
def eE.has_ls(h:eE Z H k n)(m:b∈k.ls):∃a,H b=some (.lst a):=by
 rcases aai.mp m with rfl|m
 ·exact⟨_,h.ls⟩
 ·obtain⟨s,c,rfl⟩:=aap.mp m;obtain⟨i,d⟩:=aax.mp c;obtain⟨y,_,r⟩:=h.pg.at d;exact⟨_,r.ls⟩
def eE.has_p(h:eE Z H k n)(m:b∈k.ps.map (·.p)):∃o,H b=some o:=by obtain⟨s,a,rfl⟩:=aap.mp m;obtain⟨i,c⟩:=aax.mp a;obtain⟨y,_,r⟩:=h.pg.at c;obtain⟨d,e⟩:=r.ob;exact⟨_,e⟩
def eE.has_c(h:eE Z H k n)(m:b∈k.cs):∃o,H b=some o:=by obtain⟨s,a,c⟩:=aaM.mp m;obtain⟨i,d⟩:=aax.mp a;obtain⟨y,_,r⟩:=h.pg.at d;obtain⟨j,f⟩:=aax.mp c;obtain⟨z,_,g⟩:=r.cs.at f;obtain⟨l,fs,e⟩:=g.ins;exact⟨_,e⟩
def gZ.mv(c:Z.Ok)(h:gZ Z.k H kd nm a g)(i:eE Z H k n)(m:Mv Z k H r d):gZ Z.k d kd nm a g:=by have tk:TK H d:=λb f e=>m.out b _ e (i.not_ls e (by intro _ z;cases z)) (by intro _ _ _ z;cases z);obtain⟨⟨j,e⟩,f,l,o⟩:=h;exact⟨⟨j,m.out _ _ e (i.not_ls e (by intro _ z;cases z)) (by intro C p q z;cases z;exact⟨c.kc,c.kp,c.kl⟩)⟩,f,tk _ _ l,j7 o tk⟩
def eE.grown(i:eE Z H k n)(g:di H f)(r:H p=none)(v:H l=none)(x:f p=some (.ins Z.p j (Jk l ⟨[],0,0⟩)))(y:f l=some (.lst [])):
 eE Z (upd f k.lp (.lst ((k.ps.map λs=>V.ref s.p)++[.ref p]))) {k with ps:=k.ps++[⟨p,l,[]⟩]} (o9 n)/\Mv Z k H {k with ps:=k.ps++[⟨p,l,[]⟩]} (upd f k.lp (.lst ((k.ps.map λs=>V.ref s.p)++[.ref p]))):=by
 have d:=i.same g;have nl:l∉k.ls:=λm=>by obtain⟨A,e⟩:=i.has_ls m;rw[v]at e;cases e
 constructor
 ·have:=d.page (s:=⟨p,l,[]⟩) (m:=⟨[],0,0⟩) ⟨⟨j,x⟩,y,.nil⟩ rfl (λm=>by obtain⟨o,e⟩:=i.has_p m;rw[r]at e;cases e) nl;rw[aaw]at this;exact this
 ·refine⟨λc o e h _=>?_,λb a=>?_,λb e=>e_ g (vA d.ls e),rfl,rfl,λc o e _ h=>?_,λb a=>?_⟩
  ·rw[c7 (λz=>h (by rw[z];exact aal ..))];exact g _ _ e
  ·rcases aai.mp a with rfl|a
   ·exact .inl (aal ..)
   ·rw[show({k with ps:=k.ps++[⟨p,l,[]⟩]}:LA).ps=k.ps++[⟨p,l,[]⟩]from rfl,aaw]at a;rcases aak.mp a with a|a
    ·exact .inl (aah _ a)
    ·have:b=l:=by simpa using a
     rw[this];exact .inr v
  ·rw[c7 (λz=>h (by rw[z];exact aal ..))];exact g _ _ e
  ·rcases aai.mp a with rfl|a
   ·exact .inl (aal ..)
   ·rcases aak.mp a with a|a
    ·rw[show({k with ps:=k.ps++[⟨p,l,[]⟩]}:LA).ps=k.ps++[⟨p,l,[]⟩]from rfl,aaw]at a;rcases aak.mp a with a|a
     ·exact .inl (aah _ (aak.mpr (.inl a)))
     ·have:b=p:=by simpa using a
      rw[this];exact .inr r
    ·have a:b∈(k.ps++[(⟨p,l,[]⟩:PA)]).flatMap (λq:PA=>q.cs):=a;rw[aaU]at a;rcases aak.mp a with a|a
     ·exact .inl (aah _ (aak.mpr (.inr a)))
     ·simp at a
inductive Oe(Z:LC)(vs:List V)(H:Hp)(Q:VK)(E:XK):Prop
 |mk (k:LA) (n:Ln) (c:Int):vs=[.ref k.a,.int c]->eE Z H k n->n.pg≠[]->2<=n.most->n.pg.length<=900->(∀m∈n.pg,m.cs.length<=900)->(∀k' H',eE Z H' k' (iM c n).2->Mv Z k H k' H'->Q (.bl (iM c n).1) H')->Oe Z vs H Q E
def XM:du ["self","cells"] ["self","cells"] (b_ (lM 2)):=by ext
def QR(n:Ln):wZ n<=1:=by unfold wZ;cases n.held<;>decide
def Il(n:Ln):(rK n).pg.length<=n.pg.length:=by
 unfold rK t_;dsimp only;split
 ·rw[acY];exact(ab9 _ _).length_le
 ·exact aaf _
def Sw(F:ir K "make_room" "Lane.make_room" (lM 2) f fd)(T:Txt K mg)(L:LZ K mg Z)(Y:MD K Z.l "eldest" "Lane.eldest" (lM 3) ["self"] fE U)(MU:MD K Z.p "unclosed" "Page.unclosed" (gM 1) ["self"] fU W)(MO:MD K Z.l "lose_eldest" "Lane.lose_eldest" (lM 4) ["self"] fO X)(GO:dm P w K mg base dU 2 fO X ["self"] (Qx Z))(MkP:Mk K Z.p fI)(FI:ir K "__init__" "Page.__init__" (gM 0) fI o)(bI:Binds K o ["self"] []):dm P w K mg base dU 3 f fd ["self","cells"] (Oe Z):=by
 have GE:dm P w K mg base dU 1 fE U ["self"] (Ls Z):=O4 Y.F L;have GU:dm P w K mg base dU 1 fU W ["self"] (Ha Z):=Nx MU.F L;have GI:dm P w K mg base dU 1 fI o ["self"] (Ji Z):=Gn FI L;refine F.ok XM (by ext) λaa A ab s H vs Q E hr h=>?_;obtain⟨k,n,c,rfl,a,ne,hm,hl,hc,q⟩:=h;have m:eZ 1 _:=hr.mono (by decide);refine⟨_,(bK (eX (dM jN (fX iI (dq (dZ g_ (dq (pv 0) rfl) (oh lV dh)) rfl) (pv 1)) (dq (pv 0) rfl) (dN _)) (d8 (dw lD)) dI) (bK (eX (dM Bg (fX jR (dD dO (by rfl) T.len gD (aK (dq (pv 0) rfl) cZ)) (gb (pv 0) L.lc Y.M GE m Y.b .nil dR)) (dq (pv 0) rfl) (dN _)) (bK (eX (PW.pt (uA (jm (iT (dq (pv 0) rfl))) (tR (Ht (gb (dZ g_ (dq (pv 0) rfl) (gb (pv 0) L.lc Y.M GE m Y.b .nil dR)) L.pc MU.M GU m MU.b .nil dR) (λ_=>rfl))))) (d8 (dw lD)) dI) (d8 (fc (gb (pv 0) L.lc MO.M GO hr MO.b .nil dR)))) dI) (bK (fc (lE aaZ aa3 aa8 j4 (dq (pv 0) rfl) (aK (rD MkP GI hr rfl L.pmg bI .nil dR) cZ))) (d8 (dw lD))))),?_⟩;obtain⟨j,e⟩:=a.ob;have pl:=a.pg.len;have n0:0<n.pg.length:=ab5.mpr ne;obtain⟨s0,G⟩:∃s,k.ps[k.ps.length-1]?=some s:=⟨_,aaz (by omega)⟩;obtain⟨m0,I,r0⟩:=a.pg.at G;rw[pl]at I;obtain⟨d0,e0⟩:=r0.ob;have ex:(k.ps.map λs=>V.ref s.p)[(k.ps.map λs=>V.ref s.p).length-1]?=some (.ref s0.p):=by rw[aad,aao,G];rfl
 have hu:Lx n=m0.us:=by unfold Lx;rw[I];rfl
 refine⟨_,rfl,k.a,Z.l,j,_,_,rfl,e,L.lc,L.l4,rfl,_,rfl,k.lp,_,_,_,rfl,rfl,fj.of a.ls,nY ex,s0.p,Z.p,d0,_,_,rfl,e0,L.pc,L.p2,rfl,_,rfl,_,_,rfl,rfl,_,rfl,k.a,Z.l,j,_,_,rfl,e,L.lc,L.l2,rfl,_,_,rfl,rfl,_,rfl,?_⟩;by_cases S:m0.us+c<=n.room
 ·refine j5 (by simpa using S) ?_;have d:iM c n=(true,n):=by unfold iM;rw[hu,aac S]
  rw[d]at q;exact q k H a Mv.refl
 refine gW (by simpa using S) ?_;have am:=QR n
 try dsimp only[vd]
 refine rB (λv y=>v=[some (.ref k.a),some (.int c)]/\∃D p,eE Z y D p/\Mv Z k H D y/\p.pg.length<=900/\iM c n=(true,o9 p)) ?nx λN hN=>?st
 case st=>
  refine⟨_,rfl,k.a,Z.l,j,_,_,rfl,e,L.lc,L.l4,rfl,k.lp,_,rfl,.inl (fj.of a.ls),_,rfl,k.a,j,_,rfl,e,rfl,k,n,rfl,a,_,_,rfl,rfl,_,rfl,k.a,Z.l,j,_,_,rfl,e,L.lc,L.l1,rfl,_,_,rfl,rfl,_,rfl,?_⟩;rw[aad,pl];by_cases h2:n.most<=(n.pg.length:Int)-wZ n
  ·refine j5 (by simpa using h2) ?_;have hi:wZ n+1<n.pg.length:=by omega
   obtain⟨s1,J⟩:∃s,k.ps[wZ n]?=some s:=⟨_,aaz (by omega)⟩;obtain⟨M,O,r1⟩:=a.pg.at J;obtain⟨d1,e1⟩:=r1.ob;have ah:(k.ps.map λs=>V.ref s.p)[wZ n]?=some (.ref s1.p):=by rw[aao,J];rfl
   have ec:Yx n=M.cs:=by unfold Yx;rw[O];rfl
   have d:iM c n=if(!n.over ||!(vR M.cs).isEmpty)=true then(false,n)else(true,o9 (rK n)):=by unfold iM;rw[hu,aab S,aac h2,ec]
   refine⟨_,rfl,k.a,Z.l,j,_,_,rfl,e,L.lc,L.l3,rfl,_,rfl,?_⟩;cases ho:n.over with
   | false=>rw[ho]at d;rw[d]at q;exact j5 rfl (j5 rfl (q k H a Mv.refl))
   | true=>
     rw[ho]at d;refine gW rfl ?_;refine⟨_,rfl,k.a,Z.l,j,_,_,rfl,e,L.lc,L.l4,rfl,_,rfl,k.a,j,_,rfl,e,rfl,k,n,rfl,a,k.lp,_,_,_,rfl,rfl,fj.of a.ls,dz ah,s1.p,d1,_,rfl,e1,rfl,s1,M,rfl,r1,?_,λl as H2 i ac pd sb=>?_⟩
     ·rw[r1.cs.len];exact aag (hc M (aaj O)) (by decide)
     have al:=pd.len;refine⟨_,.inl ⟨_,fj.of ac,rfl⟩,?_⟩;cases hop:vR M.cs with
     | cons x r=>
       rw[hop]at d al;have:(as.map V.ref).isEmpty=false:=by
        cases as with
        |nil=>cases al
        |cons _ _=>rfl
       rw[d]at q;refine j5 (by rw[this];rfl) (q k H2 (a.same i) (Mv.same i))
     | nil=>
       rw[hop]at d al;have:(as.map V.ref).isEmpty=true:=by
        cases as with
        |nil=>rfl
        |cons _ _=>cases al
       refine gW (by rw[this];rfl) ?_;obtain⟨aj,e2⟩:=(a.same i).ob;refine⟨_,rfl,k.a,aj,_,rfl,e2,rfl,k,n,rfl,a.same i,hi,by omega,λk' y ad mv=>hN _ _ ⟨rfl,k',_,ad,(Mv.same i).trans mv,aag (Il n) hl,d⟩⟩
  ·refine gW (by simpa using h2) (hN _ _ ⟨rfl,k,n,a,Mv.refl,hl,?_⟩);unfold iM;rw[hu,aab S,aab h2]
 case nx=>
  rintro v H1⟨rfl,D,p,g,R,ap,d⟩;obtain⟨ak,e1⟩:=g.ob;rw[R.a]at e1;rw[d]at q;refine⟨_,rfl,k.a,Z.l,ak,_,_,rfl,e1,L.lc,L.l4,rfl,.inl ⟨rfl,_,fj.of g.ls⟩,λx B hx ae af=>?_⟩;refine⟨x,B,rfl,a_,λl y b ag C kp=>⟨rfl,?_⟩⟩;have i:di H1 y:=gY hx ae kp;have ai:H1 l=none:=by
   have p:l≠x:=λz=>by rw[z,a_]at b;cases b
   have n2:l≠B:=λz=>by rw[z,c7 af,a_]at b;cases b
   rw[c7 p,c7 n2]at b;exact b
  have ao:=g.pg.len;refine⟨D.lp,_,_,rfl,rfl,i _ _ g.ls,by rw[aad];exact abp (show D.ps.length<=900 by omega) (by decide),?_⟩;obtain⟨g1,g2⟩:=g.grown i hx ai ag C;exact q _ _ g1 (R.trans g2)
def eE.addC(G:Z.Ok)(a:eE Z H k n)(f:k.ps[i]?=some s)(D:n.pg[i]?=some m)(A:iU Z H c x)(E:c∉k.cs):
 eE Z (upd H s.l (.lst ((s.cs.map V.ref)++[.ref c]))) {k with ps:=k.ps.set i {s with cs:=s.cs++[c]}} {n with pg:=n.pg.set i {m with cs:=m.cs++[x]}}:=by
 obtain⟨y,l,r⟩:=a.pg.at f;rw[D]at l;cases l;refine a.setI f rfl (.inl rfl) ?_ ?_ ?_ ?_ ?_
 ·refine(qi f).nodup_iff.mpr (aaD.mpr ⟨E,a.n3⟩)
 ·obtain⟨p,e⟩:=r.ob;refine⟨⟨p,?_⟩,?_,?_⟩
  ·show upd H s.l _ s.p=_;rw[c7 (j9 e r.ls (by intro z;cases z))];exact e
  ·show upd H s.l _ s.l=some (.lst ((s.cs++[c]).map V.ref));rw[a_,aaw];rfl
  ·refine Pd.app (.cons (A.upd (Kt.lst r.ls) ?_) .nil) (Pd.mapM (λb F y q=>q.upd (Kt.lst r.ls) ?_) r.cs)
   ·obtain⟨g,h,d⟩:=A.ins;exact j9 d r.ls (by intro z;cases z)
   ·obtain⟨g,h,d⟩:=q.ins;exact j9 d r.ls (by intro z;cases z)
 ·intro o e;obtain⟨p,d⟩:=a.ob;rw[c7 (j9 d r.ls (by intro z;cases z))];exact e
 ·intro o e;rw[c7 (a.ne_lp f).symm];exact e
 ·intro j u v B C q;exact q.updL r.ls (a.ne_l B C f)
inductive Oo(Z:LC)(vs:List V)(H:Hp)(Q:VK)(E:XK):Prop
 |mk (k:LA) (n:Ln) (kd a:Zl) (nm:Str) (fs:List ji) (tm:Int):vs=[.ref k.a,.ref kd,.int tm]->eE Z H k n->gZ Z.k H kd nm a fs->tO nm fs->n.pg≠[]->2<=n.most->n.pg.length<=900->(∀m∈n.pg,m.cs.length<=900)->((∀t,n.last=some t->t<=tm))->(∀k' H',eE Z H' k' (n7 nm fs tm n).2->Mv Z k H k' H'->Q (Wo (n7 nm fs tm n).1) H')->Oo Z vs H Q E
def VM:du ["self","kind","time","head"] ["self","kind","time"] (b_ (lM 1)):=by ext
set_option tactic.hygienic true in
def Jt(ne:n.pg≠[])(b:∀m∈n.pg,m.cs.length<=900):(iM c n).2.pg≠[]/\∀m∈(iM c n).2.pg,m.cs.length<=900:=by
 have e:∀d:Ln,(∀m∈d.pg,m.cs.length<=900)->(o9 d).pg≠[]/\∀m∈(o9 d).pg,m.cs.length<=900:=λd h=>by
  refine⟨by simp[o9],λm a=>?_⟩;rcases aak.mp a with a|a
  ·exact h m a
  ·cases aam.mp a;exact aaJ _
 unfold iM;split
 ·exact⟨ne,b⟩
 ·split
  ·split
   ·exact⟨ne,b⟩
   ·refine e _ λm a=>?_;unfold rK t_ at a;dsimp only at a;split at a
    ·rename_i p q g f;rcases abf a with a|rfl
     ·exact b m ((ab9 _ _).subset a)
     ·exact(b q (aaj f):q.cs.length<=900)
    ·exact b m a
  ·exact e _ b
theorem Ux(F:ir K "claim" "Lane.claim" (lM 1) f fd)(T:Txt K mg)(L:LZ K mg Z)(MM:MD K Z.l "make_room" "Lane.make_room" (lM 2) ["self","cells"] fM fdM)(GM:dm P w K mg base dU 3 fM fdM ["self","cells"] (Oe Z))(MC:MD K Z.k "cells" "Kind.cells" (kM 2) ["self"] fC fdC)(MkC:Mk K Z.c fI)(GI:dm P w K mg base dU 6 fI fdI ["self","ticket","time","kind"] (JK Z))(bI:Binds K fdI ["self","ticket","time","kind"] []):dm P w K mg base dU 8 f fd ["self","kind","time"] (Oo Z):=by
 have GC:dm P w K mg base dU 1 fC fdC ["self"] (qP Z.k):=yV MC.F T L.kc;refine F.ok VM (by ext) λab A am s H vs Q E hr h=>?_;obtain ⟨k,n,kd,a,nm,fs,C,rfl,ln,ka,ko,ne,hm,hl,hc,ht,q⟩:=h;have ad:eZ 1 _:=hr.mono (by decide);have aq:eZ 3 _:=hr.mono (by decide);refine ⟨_,(bK (eX (PW.pt (oK (dM Cy (dq (pv 0) rfl) l_ (dN _)) (mQ (dM uz (pv 2) (dq (pv 0) rfl) (dN _))))) (d8 gj) dI) (bK (dY (pv 0) (pv 2) rfl) (bK (jh (pv 0) dh nP) (bK (eX (jm (iT (eO (pv 0) L.lc MM.M GM aq MM.b .nil dR (aK (gb (pv 1) L.kc.cl MC.M GC ad MC.b .nil dR) cZ)))) (bK (jh (pv 0) dh nP) (d8 (dw l_))) dI) (bK (jj 3 VM.nd (dZ g_ (dq (pv 0) rfl) (oh lV dh))) (bK (jh (pv 3) (gb (pv 1) L.kc.cl MC.M GC ad MC.b .nil dR) nP) (bK (fc (lE aaZ aa3 aa8 j4 (dq (pv 3) rfl) (aK (lL MkC GI hr rfl L.cmg bI .nil dR (aK (dq (pv 0) rfl) (aK (pv 2) (aK (pv 1) cZ)))) cZ))) (d8 (dw (dq (pv 0) rfl)))))))))),?_⟩;obtain ⟨dx,e⟩:=ln.ob;have t1:∀(Q':Bool->Hp->Prop),Q' false H->(V_ (uN (RG (λx y H Q=>y=.non/\Q (.bl (!decide (x=.non))) H) (K8 K (oY 0) "last_time") (tC .non))) (uN (RG (Jr λi j=>.bl (decide (i<j))) (oY 2) (K8 K (oY 0) "last_time")))) [some (.ref k.a),some (.ref kd),some (.int C),none] H Q':=by
  intro Q' q';refine ⟨_,rfl,k.a,Z.l,dx,_,_,rfl,e,L.lc,L.l7,rfl,rfl,_,rfl,?_⟩;cases hla:n.last with
  |none=>exact gW rfl q'
  | some t=>have:=ht t hla;refine j5 rfl ⟨_,rfl,_,rfl,k.a,Z.l,dx,_,_,rfl,e,L.lc,L.l7,rfl,_,_,rfl,(by rw [hla];rfl),_,rfl,?_⟩;have hd:decide (C<t)=false:=aaR (by omega);rw [hd];exact q'
 refine t1 _ (gW rfl ?_)
 try dsimp only [vd]
 refine ⟨_,rfl,_,rfl,k.a,Z.l,dx,_,rfl,e,L.lc,L.l7,(show 12<1000 by decide),?_⟩;have U:eE Z (upd H k.a (.ins Z.l dx (gJ "last_time" (.int C) (Ew k.lp n)))) k {n with last:=some C}:=ln.setL L.ok (dx':=dx) e {n with last:=some C} rfl;have ae:Mv Z k H k (upd H k.a (.ins Z.l dx (gJ "last_time" (.int C) (Ew k.lp n)))):=Mv.ins e (.inr (.inr rfl)) LA.a_own;generalize upd H k.a (.ins Z.l dx (gJ "last_time" (.int C) (Ew k.lp n)))=H1 at U ae|-;obtain ⟨J,e1⟩:=U.ob;refine ⟨_,rfl,k.a,Z.l,J,_,_,rfl,e1,L.lc,L.l8,rfl,_,_,rfl,rfl,J,_,e1,(show 12<1000 by decide),?_⟩;have O:eE Z (upd H1 k.a (.ins Z.l J (gJ "tickets" (.int (n.tks+1)) (Ew k.lp {n with last:=some C})))) k {n with last:=some C,tks:=n.tks+1}:=U.setL L.ok (dx':=J) e1 {n with last:=some C,tks:=n.tks+1} rfl;have W:=ae.trans (Mv.ins (o:=.ins Z.l J (gJ "tickets" (.int (n.tks+1)) (Ew k.lp {n with last:=some C}))) e1 (.inr (.inr rfl)) LA.a_own);generalize upd H1 k.a (.ins Z.l J (gJ "tickets" (.int (n.tks+1)) (Ew k.lp {n with last:=some C})))=H2 at O W|-;generalize aa:({n with last:=some C,tks:=n.tks+1}:Ln)=D at O;obtain ⟨ay,e2⟩:=O.ob;have X:=ka.mv L.ok ln W;obtain ⟨⟨dk,ek⟩,_⟩:=id X;refine ⟨_,rfl,k.a,ay,_,rfl,e2,rfl,_,rfl,kd,dk,_,rfl,ek,sY nm a (by ext) (by ext),kd,a,nm,fs,rfl,X,?_⟩;have p1:D.pg=n.pg:=by rw [<-aa]
 refine ⟨k,D,_,rfl,O,(by rw [p1];exact ne),(by rw [<-aa];exact hm),(by rw [p1];exact hl),(by rw [p1];exact hc),λp H3 z B=>⟨_,rfl,?_⟩⟩;have q':∀k' H',eE Z H' k' (if (iM (1+(fs.length:Int)) D).1=true then (some (iM (1+(fs.length:Int)) D).2.tks,sI (gh (iM (1+(fs.length:Int)) D).2.tks C nm fs) (1+(fs.length:Int)) (iM (1+(fs.length:Int)) D).2)else (none,{(iM (1+(fs.length:Int)) D).2 with mis:=(iM (1+(fs.length:Int)) D).2.mis+1})).2->Mv Z k H k' H'->Q (Wo (if (iM (1+(fs.length:Int)) D).1=true then (some (iM (1+(fs.length:Int)) D).2.tks,sI (gh (iM (1+(fs.length:Int)) D).2.tks C nm fs) (1+(fs.length:Int)) (iM (1+(fs.length:Int)) D).2)else (none,{(iM (1+(fs.length:Int)) D).2 with mis:=(iM (1+(fs.length:Int)) D).2.mis+1})).1) H':=by unfold n7 at q;rw [aa]at q;exact q
 clear q;have rn:=Jt (c:=1+(fs.length:Int)) (n:=D) (by rw [p1];exact ne) (by rw [p1];exact hc);have S:=W.trans B;have Y:=X.mv L.ok O B;generalize iM (1+(fs.length:Int)) D=rm at z rn q'|-;obtain ⟨b,g⟩:=rm;obtain ⟨M,e3⟩:=z.ob;rw [B.a]at e3;cases b with
 | false=>
   refine j5 rfl ?_;refine ⟨_,rfl,k.a,Z.l,M,_,_,rfl,e3,L.lc,L.l12,rfl,_,_,rfl,rfl,M,_,e3,(show 12<1000 by decide),?_⟩;have au:H3 p.a=some (.ins Z.l M (Ew p.lp g)):=by rw [B.a];exact e3
   have I:eE Z (upd H3 k.a (.ins Z.l M (gJ "missed" (.int (g.mis+1)) (Ew p.lp g)))) p {g with mis:=g.mis+1}:=by have:=z.setL L.ok (dx':=M) au {g with mis:=g.mis+1} rfl;rw [B.a]at this;exact this
   exact q' p _ I (S.trans (Mv.ins e3 (.inr (.inr rfl)) (by rw [<-B.a];exact LA.a_own)))
 | true=>
   refine gW rfl ?_
   try dsimp only [vd]
   have pl:p.ps.length=g.pg.length:=z.pg.len;have n0:0<g.pg.length:=ab5.mpr rn.1;obtain ⟨d,r⟩:∃s,p.ps[p.ps.length-1]?=some s:=⟨_,aaz (by omega)⟩;obtain ⟨v,R,r0⟩:=z.pg.at r;rw [pl]at R r;obtain ⟨d0,e0⟩:=r0.ob;have ex:(p.ps.map λs=>V.ref s.p)[(p.ps.map λs=>V.ref s.p).length-1]?=some (.ref d.p):=by rw [aad,aao,pl,r];rfl
   refine ⟨_,rfl,k.a,Z.l,M,_,_,rfl,e3,L.lc,L.l4,rfl,_,rfl,p.lp,_,_,_,rfl,rfl,fj.of z.ls,nY ex,?_⟩;obtain ⟨⟨az,aA⟩,_⟩:=id Y;refine ⟨_,rfl,d.p,Z.p,d0,_,_,rfl,e0,L.pc,L.p2,rfl,_,rfl,kd,az,_,rfl,aA,sY nm a (by ext) (by ext),kd,a,nm,fs,rfl,Y,_,_,rfl,rfl,d0,_,e0,(show 3<1000 by decide),?_⟩;have I:eE Z (upd H3 d.p (.ins Z.p d0 (gJ "used" (.int (v.us+(1+(fs.length:Int)))) (Jk d.l v)))) p {g with pg:=g.pg.set (g.pg.length-1) {v with us:=v.us+(1+(fs.length:Int))}}:=z.setP L.ok (dx':=d0) r R (m':={v with us:=v.us+(1+(fs.length:Int))}) rfl;have af:=S.trans (Mv.ins (o:=.ins Z.p d0 (gJ "used" (.int (v.us+(1+(fs.length:Int)))) (Jk d.l v))) e0 (.inr (.inl rfl)) (LA.p_own r));have ag:=Y.mv L.ok z (Mv.ins (k:=p) (o:=.ins Z.p d0 (gJ "used" (.int (v.us+(1+(fs.length:Int)))) (Jk d.l v))) e0 (.inr (.inl rfl)) (LA.p_own r));generalize upd H3 d.p (.ins Z.p d0 (gJ "used" (.int (v.us+(1+(fs.length:Int)))) (Jk d.l v)))=H4 at I af ag|-;have ah:({g with pg:=g.pg.set (g.pg.length-1) {v with us:=v.us+(1+(fs.length:Int))}}:Ln).pg[g.pg.length-1]?=some {v with us:=v.us+(1+(fs.length:Int))}:=by show (g.pg.set (g.pg.length-1) _)[g.pg.length-1]?=_;rw [acw (by omega)]
   obtain ⟨m4,ak,r4⟩:=I.pg.at r;obtain rfl:m4={v with us:=v.us+(1+(fs.length:Int))}:=by have:=ak.symm.trans ah;injection this
   obtain ⟨d4,e4⟩:=r4.ob;obtain ⟨aB,al⟩:=I.ob;rw [B.a]at al;refine ⟨_,rfl,d.p,Z.p,d4,_,_,rfl,e4,L.pc,L.p1,rfl,.inl ⟨rfl,_,fj.of r4.ls⟩,_,rfl,k.a,Z.l,aB,_,_,rfl,al,L.lc,L.l8,rfl,_,rfl,_,rfl,λx G hx ac ao=>?_⟩;have s5:di H4 (upd (upd H4 G (.own x)) x (.ins Z.c G [])):=(di.new ac).trans (di.new (by rw [c7 ao.symm];exact hx));refine ⟨x,G,kd,a,_,C,nm,fs,rfl,a_,ag.kt (di.kt s5),ko,λH6 ap k6=>⟨rfl,?_⟩⟩;have s6:di H4 H6:=gY hx ac k6;have av:=I.same s6;have nc:x∉p.cs:=λm=>by obtain ⟨o,eo⟩:=I.has_c m;rw [hx]at eo;cases eo
   have c9:d.cs.length<=900:=by rw [r0.cs.len];exact rn.2 v (aaj R)
   refine ⟨d.l,_,_,rfl,rfl,s6 _ _ r4.ls,by rw [aad];exact abp c9 (by decide),?_⟩;have ai:=av.addC L.ok r ah ap nc;have aw:d.l∈p.ls:=aah _ (aap.mpr ⟨d,aaj r,rfl⟩);have ax:=af.trans (Mv.lstN (Z:=Z) (k':={p with ps:=p.ps.set (g.pg.length-1) {d with cs:=d.cs++[x]}}) (o:=.lst ((d.cs.map V.ref)++[.ref x])) s6 (s6 _ _ r4.ls) aw rfl (λl ml=>.inl (by
    rcases aai.mp ml with rfl|ml
    ·exact aal ..
    ·rw [show ({p with ps:=p.ps.set (g.pg.length-1) {d with cs:=d.cs++[x]}}:LA).ps=p.ps.set (g.pg.length-1) {d with cs:=d.cs++[x]}from rfl,eY (λx:PA=>x.l) (s':={d with cs:=d.cs++[x]}) r rfl]at ml;exact aah _ ml)) (λb N=>by
    rcases aai.mp N with rfl|N
    ·exact .inl (aal ..)
    ·rcases aak.mp N with N|N
     ·rw [show ({p with ps:=p.ps.set (g.pg.length-1) {d with cs:=d.cs++[x]}}:LA).ps=p.ps.set (g.pg.length-1) {d with cs:=d.cs++[x]}from rfl,eY (λx:PA=>x.p) (s':={d with cs:=d.cs++[x]}) r rfl]at N;exact .inl (aah _ (aak.mpr (.inl N)))
     ·have N:b∈(p.ps.set (g.pg.length-1) {d with cs:=d.cs++[x]}).flatMap (·.cs):=N;rcases aai.mp ((qi r).subset N)with rfl|N
      ·exact .inr hx
      ·exact .inl (aah _ (aak.mpr (.inr N)))));obtain ⟨aC,e7⟩:=ai.ob;have aj:_:=e7;rw [show ({p with ps:=p.ps.set (g.pg.length-1) {d with cs:=d.cs++[x]}}:LA).a=k.a from B.a]at aj;refine ⟨_,rfl,k.a,Z.l,aC,_,_,rfl,aj,L.lc,L.l8,rfl,?_⟩;refine q' {p with ps:=p.ps.set (g.pg.length-1) {d with cs:=d.cs++[x]}} _ ?_ ax;show eE Z _ _ (sI (gh g.tks C nm fs) (1+(fs.length:Int)) g);unfold sI;rw [R];have:=ai;dsimp only at this;rw [List.set_set]at this;exact this
end
noncomputable def wait(n:Ln):List Cl:=n.pg.flatMap λp=>vR p.cs
def iQ{b:Type}{a:List b}{i:Nat}{x:b}(h:a[i]?=some x):a.take (i+1)=a.take i++[x]:=by rw[aaT,h];rfl
theorem uY{b:List PA}{s:PA}(m:s∈b):s.cs.length<=(b.flatMap (·.cs)).length:=by
 induction b with
 |nil=>cases m
 | cons a r c=>
   rw[aaA,aas];rcases aai.mp m with rfl|m
   ·omega
   ·have:=c m;omega
theorem mY{b:Type}{f:b->V}{a:List b}{i:Nat}{v:V}(h:(a.map f)[i]?=some v):∃x,a[i]?=some x/\f x=v:=by
 rw[aao]at h;cases hj:a[i]? with
 |none=>rw[hj]at h;cases h
 |some x=>rw[hj]at h;exact⟨x,rfl,by simpa using h⟩
section
variable{P:ZE}{w:ZH}{K:Zs}{mg:Y1}{base:ZN}{Z:LC}
inductive Iw(Z:LC)(vs:List V)(H:Hp)(Q:VK)(E:XK):Prop
 |mk (k:LA) (n:Ln):vs=[.ref k.a]->eE Z H k n->k.cs.length<=900->n.pg.length<=900->(∀(l:Zl)(as:YI)(H':Hp),di H H'->H' l=some (.lst (as.map V.ref))->Pd (iU Z H') as (wait n)->as.Sublist k.cs->Q (.ref l) H')->Iw Z vs H Q E
def Xc:du ["self"] ["self"] (b_ (lM 6)):=by ext
def VL{f fU:Zl}{fd R:ZB}(F:ir K "waiting" "Lane.waiting" (lM 6) f fd)(L:LZ K mg Z)(MU:MD K Z.p "unclosed" "Page.unclosed" (gM 1) ["self"] fU R):dm P w K mg base dU 2 f fd ["self"] (Iw Z):=by
 have GU:dm P w K mg base dU 1 fU R ["self"] (Ha Z):=Nx MU.F L;refine F.ok Xc (by ext) λad A U s H vs Q E hr h=>?_;obtain⟨k,n,rfl,I,hc,hl,q⟩:=h;refine⟨_,(d8 (dw (yS (g:=eN 0) (g2:=eN 1) (tt:=qm) (tt2:=qm) (te:=oY 1) (wi2:=Cw K (HW Z.p "unclosed" (Ha Z) [] E0 (oY 0) y_)) (own:=["page","claim"]) (js:=[]) (N':=["page","claim"]) (dX.of (osc:=b_ (lM 6)) (N:=["self"]) rfl rfl (by ext)) rfl (h_ (dq (pv 0) rfl)) (λ_ _ _ _ _=>(fZ (i:=0) (show List.Nodup (["page","claim"]:Y2) by ext) rfl (.inl rfl) (.inr rfl))) (λ_ _ _ _ _=>gF) (λ_ _ _ _ _=>xK rfl (gb (E:=E0) (pv 0) L.pc MU.M GU hr MU.b .nil dR)) (λ_ _=>rfl) (λ_ _ _ _ _=>(fZ (i:=1) (show List.Nodup (["page","claim"]:Y2) by ext) rfl (.inl rfl) (.inr rfl))) (λ_ _ _ _ _=>gF) (λ_ _ _ _ _=>pv 1)))),?_⟩;obtain⟨dx,e⟩:=I.ob;have pl:=I.pg.len;refine⟨_,rfl,k.a,Z.l,dx,_,_,rfl,e,L.lc,L.l4,rfl,k.lp,rfl,⟨_,fj.of I.ls⟩,?_⟩;refine⟨λi m ys σ W=>m=k.ps.length-i/\i<=k.ps.length/\di H W/\(∃u v,σ=[u,v])/\∃b,ys=b.map V.ref/\Pd (iU Z W) b ((n.pg.take i).flatMap λp=>vR p.cs)/\b.Sublist ((k.ps.take i).flatMap (·.cs)),⟨k.ps.length,by simp,aaJ _,di.refl _,⟨none,none,rfl⟩,[],rfl,.nil,abq _⟩,?_⟩;rintro i m ys σ H1⟨rfl,hi,T,⟨u,v,rfl⟩,b,rfl,pd,J⟩;have z:=T _ _ I.ls;by_cases M:i<k.ps.length
 ·have Y:i<(k.ps.map λs=>V.ref s.p).length:=by rw[aad];exact M
  refine .inr ⟨⟨_,(k.ps.map λs=>V.ref s.p)[i],fj.of z,aaz Y⟩,λx W y=>?_⟩;obtain⟨rfl,y⟩:=y;obtain⟨S,d,rfl⟩:=mY (y _ (fj.of z));obtain⟨m0,ab,r0⟩:=(I.same T).pg.at d;obtain⟨d0,e0⟩:=r0.ob;dsimp only[eN,qm,List.set];rw[aac rfl];have c9:S.cs.length<=900:=aag (uY (aaj d)) hc;refine⟨_,rfl,S.p,d0,_,rfl,e0,rfl,S,m0,rfl,r0,by omega,λl bs H2 B a X C=>?_⟩;have S2:=T.trans B;have all:((k.ps.take (i+1)).flatMap (·.cs)).Sublist k.cs:=tU (acH _ _);have al:(b++bs).length<=900:=by refine aag (List.Sublist.length_le (l₂:=k.cs) (List.Sublist.trans ?_ all)) hc;rw[iQ d,aaU];refine J.append ?_;simpa using C
  rw[aas]at al;have big:1000<=sizeLine:=by decide
  refine⟨l,rfl,⟨_,fj.of a⟩,λj m D G H3=>m=bs.length-j/\j<=bs.length/\H3=H2/\(∃v,G=[some (.ref S.p),v])/\D=(b++bs.take j).map V.ref,⟨bs.length,by simp,aaJ _,rfl,⟨_,rfl⟩,by simp⟩,?_⟩;rintro j m D G H3⟨rfl,hj,rfl,⟨v',rfl⟩,rfl⟩;by_cases O:j<bs.length
  ·have aa:j<(bs.map V.ref).length:=by rw[aad];exact O
   refine .inr ⟨⟨_,(bs.map V.ref)[j],fj.of a,aaz aa⟩,?_,λx H4 y=>?_⟩
   ·rw[aad,aas,aaS];omega
   ·obtain⟨rfl,y⟩:=y;obtain⟨c,ac,rfl⟩:=mY (y _ (fj.of a));dsimp only[eN,qm,List.set];rw[aac rfl];refine⟨_,rfl,_,(by omega),rfl,O,rfl,⟨_,rfl⟩,?_⟩;rw[iQ ac];simp
  ·have ej:j=bs.length:=by omega
   subst ej;refine .inl ⟨⟨_,fj.of a,by rw[aad];exact aaf _⟩,k.ps.length-(i+1),by omega,rfl,M,S2,⟨_,_,rfl⟩,b++bs,by rw[aaL],?_,?_⟩
   ·rw[iQ ab,aaU];refine Pd.app ?_ (pd.map λ_ _ r=>r.same B);simpa using X
   ·rw[iQ d,aaU];refine J.append ?_;simpa using C
 ·have ei:i=k.ps.length:=by omega
  subst ei;rw[pl,aaL]at pd;rw[aaL]at J;have al:=J.length_le;refine .inl ⟨⟨_,fj.of z,by rw[aad];exact aaf _⟩,by rw[aad];exact aag (aag al hc) (by decide),λp hp=>?_⟩;have B:=di.new (o:=.lst (b.map V.ref)) hp;exact q p b _ (T.trans B) a_ (pd.map λ_ _ r=>r.same B) J
inductive QH(Z:LC)(vs:List V)(H:Hp)(Q:VK)(E:XK):Prop
 |mk (k:LA) (n:Ln):vs=[.ref k.a]->eE Z H k n->k.cs.length<=900->n.pg.length<=900->(∀(l:Zl)(H':Hp),di H H'->H l=none->H' l=some (.lst ((wait n).map λc=>V.int c.tk))->Q (.ref l) H')->QH Z vs H Q E
def WM:du ["self"] ["self"] (b_ (lM 16)):=by ext
def T7{f R:Zl}{S o:ZB}(F:ir K "pending" "Lane.pending" (lM 16) f S)(L:LZ K mg Z)(T:MD K Z.l "waiting" "Lane.waiting" (lM 6) ["self"] R o)(GW:dm P w K mg base dU 2 R o ["self"] (Iw Z)):dm P w K mg base dU 3 f S ["self"] (QH Z):=by
 refine F.ok WM (by ext) λU A y s H vs Q E W h=>?_;obtain⟨k,n,rfl,J,M,hl,q⟩:=h;refine⟨_,(d8 (dw (jb (g:=eN 0) (own:=["claim"]) (js:=[]) (N':=["claim"]) (dX.of (osc:=b_ (lM 16)) (N:=["self"]) rfl rfl (by ext)) rfl (h_ (gb (pv 0) L.lc T.M GW W T.b .nil dR)) (λ_ _ _ _ _=>(fZ (i:=0) (show List.Nodup (["claim"]:Y2) by ext) rfl (.inl rfl) (.inr rfl))) (λ_ _ _ _ _=>gF) (λ_ _ _ _ _=>qU (K:=K) rfl (pv 0) rfl)))),?_⟩;obtain⟨dx,e⟩:=J.ob;refine⟨_,rfl,k.a,dx,_,rfl,e,rfl,k,n,rfl,J,M,hl,λl C X D d G Y=>?_⟩;have al:=Y.length_le;have wl:=G.len;refine⟨l,rfl,⟨_,fj.of d⟩,?_⟩;refine iY (xs:=C.map V.ref) (λj ys b p=>p=X/\(∃v,b=[v])/\ys=((wait n).take j).map λc=>V.int c.tk) (by rw[aad];exact aag (aag al M) (by decide)) ⟨rfl,⟨none,rfl⟩,rfl⟩ (λj ys σ p _ z=>by rw[z.1];exact fj.of d) ?_ ?_
 ·rintro j x ys b p hj O⟨rfl,⟨v,rfl⟩,rfl⟩N hN;obtain⟨c,B,rfl⟩:=mY hj;obtain⟨m,hm,r⟩:=G.at B;obtain⟨dc,kk,a,t,ec,_⟩:=r.ex;refine⟨_,rfl,c,Z.c,dc,_,_,rfl,ec,L.cc,L.c1,rfl,hN _ _ _ (by rw[aas,O];rfl) ⟨rfl,⟨_,rfl⟩,?_⟩⟩;rw[iQ hm,aaw];rfl
 ·rintro ys b p O⟨rfl,⟨v,rfl⟩,rfl⟩;rw[show(C.map V.ref).length=(wait n).length by rw[aad];exact wl,aaL];refine⟨by rw[aad];exact aag (show(wait n).length<=900 by omega) (by decide),λa I=>q a _ (D.trans (di.new I)) (e_ D I) a_⟩
inductive Gb(Z:LC)(vs:List V)(H:Hp)(Q:VK)(E:XK):Prop
 |mk (k:LA) (n:Ln) (tk:Int):vs=[.ref k.a,.int tk]->eE Z H k n->k.cs.length<=900->n.pg.length<=900->(∃m∈wait n,m.tk=tk)->(∀(c:Zl)(m:Cl)(H':Hp),di H H'->c∈k.cs->iU Z H' c m->m∈wait n->m.tk=tk->Q (.ref c) H')->Gb Z vs H Q E
def V7:du ["self","ticket","claim"] ["self","ticket"] (b_ (lM 7)):=by ext
def Um(F:ir K "waiting_with" "Lane.waiting_with" (lM 7) f J)(L:LZ K mg Z)(M:MD K Z.l "waiting" "Lane.waiting" (lM 6) ["self"] I p)(GW:dm P w K mg base dU 2 I p ["self"] (Iw Z)):dm P w K mg base dU 3 f J ["self","ticket"] (Gb Z):=by
 refine F.ok V7 (by ext) λN A B s H vs Q E O h=>?_;obtain⟨k,n,tk,rfl,D,Y,hl,⟨m0,mw,mt⟩,q⟩:=h;refine⟨_,(bK (j6 aaO rfl (h_ (gb (E:=E0) (pv 0) L.lc M.M GW O M.b .nil dR)) (jP 2 V7.nd) (d8 (eX (dM gG (dq (pv 2) rfl) (pv 1) (dN _)) (d8 (dw (pv 2))) dI))) (d8 gj)),?_⟩;obtain⟨dx,e⟩:=D.ob;refine⟨_,rfl,k.a,dx,_,rfl,e,rfl,k,n,rfl,D,Y,hl,λl R S T i C U=>?_⟩;have X:=C.len;refine⟨l,rfl,⟨_,fj.of i⟩,?_⟩;refine iW (xs:=R.map V.ref) (λj d y=>y=S/\(∃v,d=[some (.ref k.a),some (.int tk),v])/\∀m∈(wait n).take j,m.tk≠tk) ⟨rfl,⟨none,rfl⟩,by simp⟩ (λj σ y _ z=>by rw[z.1];exact fj.of i) ?_ ?_
 ·rintro j x d y hj⟨rfl,⟨v,rfl⟩,b⟩;obtain⟨c,o,rfl⟩:=mY hj;obtain⟨m,G,r⟩:=C.at o;obtain⟨dc,kk,a,t,ec,_⟩:=r.ex;dsimp only[eN,List.set];refine⟨_,rfl,c,Z.c,dc,_,_,rfl,ec,L.cc,L.c1,rfl,_,rfl,rfl,_,rfl,?_⟩;by_cases h:m.tk=tk
  ·refine j5 (by simp[h]) ⟨_,rfl,q c m _ T (U.subset (aaj o)) r (aaj G) h⟩
  ·refine gW (by simp[h]) ⟨rfl,⟨_,rfl⟩,λW g=>?_⟩;rw[iQ G]at g;rcases aak.mp g with g|g
   ·exact b W g
   ·cases aam.mp g;exact h
 ·rintro d y⟨rfl,_,b⟩;rw[aad,X,aaL]at b;exact(b m0 mw mt).elim
inductive JG(Z:LC)(vs:List V)(H:Hp)(Q:VK)(E:XK):Prop
 |mk (k:LA) (n:Ln) (tk:Int):vs=[.ref k.a,.int tk]->eE Z H k n->k.cs.length<=900->n.pg.length<=900->(∃r m,wait n=r++[m]/\m.tk=tk)->(∀(c:Zl)(m:Cl)(H':Hp),di H H'->c∈k.cs->iU Z H' c m->m∈wait n->m.tk=tk->Q (.ref c) H')->JG Z vs H Q E
def Vi:du ["self","ticket","claim"] ["self","ticket"] (b_ (lM 8)):=by ext
def Sv(F:ir K "last_waiting" "Lane.last_waiting" (lM 8) f W)(L:LZ K mg Z)(X:MD K Z.l "waiting" "Lane.waiting" (lM 6) ["self"] T g)(GW:dm P w K mg base dU 2 T g ["self"] (Iw Z))(Y:MD K Z.l "waiting_with" "Lane.waiting_with" (lM 7) ["self","ticket"] U i)(GV:dm P w K mg base dU 3 U i ["self","ticket"] (Gb Z)):dm P w K mg base dU 4 f W ["self","ticket"] (JG Z):=by
 refine F.ok Vi (by ext) λj A o s H vs Q E C h=>?_;obtain⟨k,n,tk,rfl,y,J,M,⟨r,N,O,R⟩,q⟩:=h;have x:eZ 2 _:=C.mono (by decide);refine⟨_,(bK (jj 2 Vi.nd (eO (E:=E0) (pv 0) L.lc Y.M GV C Y.b .nil dR (aK (pv 1) cZ))) (bK (eX (dM uw (dq (dZ g_ (gb (E:=E0) (pv 0) L.lc X.M GW x X.b .nil dR) (oh lV dh)) rfl) (pv 1) (dN _)) (d8 gj) dI) (d8 (dw (pv 2))))),?_⟩;obtain⟨dx,e⟩:=y.ob;refine⟨_,rfl,k.a,dx,_,rfl,e,rfl,_,rfl,k,n,tk,rfl,y,J,M,⟨N,by rw[O];simp,R⟩,λc m H1 D mc cl mm em=>?_⟩;have d:=y.same D;obtain⟨z,e1⟩:=d.ob;refine⟨_,rfl,k.a,z,_,rfl,e1,rfl,k,n,rfl,d,J,M,λl p H2 G v I sb=>?_⟩;have wl:=I.len;have b:(wait n)[p.length-1]?=some N:=by rw[wl,O];simp
 obtain⟨S,B,r0⟩:=I.at' b;obtain⟨dc,kk,a,t,ec,_⟩:=r0.ex;have ex:(p.map V.ref)[(p.map V.ref).length-1]?=some (.ref S):=by rw[aad,aao,B];rfl
 refine⟨_,rfl,l,_,_,_,rfl,rfl,fj.of v,nY ex,S,Z.c,dc,_,_,rfl,ec,L.cc,L.c1,rfl,_,rfl,rfl,_,rfl,gW (by simp[R]) ⟨_,rfl,q c m _ (D.trans G) mc (cl.same G) mm em⟩⟩
noncomputable def mz(tk:Int)(c:Cl):Cl:=if c.tk=tk then{c with gv:=true}else c
noncomputable def yt(tk:Int)(n:Ln):Ln:={n with pg:=n.pg.map λp=>{p with cs:=p.cs.map (mz tk)},giv:=n.giv+1}
noncomputable def iu(n:Ln):List Cl:=n.pg.flatMap (·.cs)
theorem Pd.both{b c:Type}{R:b->c->Prop}:∀{a:List b}{ys:List c},Pd R a ys->Pd (λx y=>R x y/\(x,y)∈a.zip ys) a ys
 |_,_,.nil=>.nil
 |_,_,.cons r t=>.cons ⟨r,by simp⟩ ((Pd.both t).map λ_ _ h=>⟨h.1,by simp[h.2]⟩)
theorem Pd.mapR{a b d:Type}{R:a->b->Prop}{e:a->d->Prop}{g:b->d}(h:∀x y,R x y->e x (g y)):∀{c:List a}{ys:List b},Pd R c ys->Pd e c (ys.map g)
 |_,_,.nil=>.nil
 |_,_,.cons r t=>.cons (h _ _ r) (Pd.mapR h t)
theorem yK:∀{a:List PA}{b:List Pg},Pd (λs m=>s.cs.length=m.cs.length) a b->(a.flatMap (·.cs)).zip (b.flatMap (·.cs))=(a.zip b).flatMap λq=>q.1.cs.zip q.2.cs
 |_,_,.nil=>rfl
 | _,_,.cons r t=>by rw[aaA,aaA,List.zip_append r,yK t];rfl
theorem zZ{m i o:Type}{f:i->o}:∀{j:List m}{ys:List i}{b c:m}{y z:i},(ys.map f).Nodup->(b,y)∈j.zip ys->(c,z)∈j.zip ys->f y=f z->b=c
 |[],_,_,_,_,_,_,h,_,_=>by simp at h
 |_::_,[],_,_,_,_,_,h,_,_=>by simp at h
 | a::r,w::t,b,c,y,z,nd,g,d,e=>by
   rw[aat]at nd;obtain⟨l,n⟩:=aaD.mp nd;rw[List.zip_cons_cons]at g d;rcases aai.mp g with g|g
   ·rcases aai.mp d with d|d
    ·cases g;cases d;rfl
    ·cases g;exact(l (by rw[e];exact aap.mpr ⟨z,(abX d).2,rfl⟩)).elim
   ·rcases aai.mp d with d|d
    ·cases d;exact(l (by rw[<-e];exact aap.mpr ⟨y,(abX g).2,rfl⟩)).elim
    ·exact zZ n g d e
def eE.zips(a:eE Z H k n):k.cs.zip (iu n)=(k.ps.zip n.pg).flatMap λq=>q.1.cs.zip q.2.cs:=yK (a.pg.map λ_ _ r=>r.cs.len)
def eE.at_c{k:LA}(b:eE Z H k n)(o:c∈k.cs):∃y,iU Z H c y/\(c,y)∈k.cs.zip (iu n):=by obtain⟨s,d,e⟩:=aaM.mp o;obtain⟨i,f⟩:=aax.mp d;obtain⟨m,p,r,g⟩:=b.pg.both.at f;obtain⟨j,h⟩:=aax.mp e;obtain⟨y,q,l,a⟩:=r.cs.both.at h;refine⟨y,l,?_⟩;rw[b.zips];exact aaM.mpr ⟨(s,m),g,a⟩
def Ny(f:iU Z H c m)(g:iU Z H c y):m.tk=y.tk:=by
 obtain⟨d,k,a,t,e,_⟩:=f.ex;obtain⟨h,i,j,l,b,_⟩:=g.ex;rw[e]at b;injection b with b
 injection b with _ _ e3
 injection e3 with e3
 injection e3 with _ e3
 injection e3
def eE.setC(q:Z.Ok){H:Hp}{k:LA}{n:Ln}{m:Cl}(d:eE Z H k n)(S:c∈k.cs)(T:iU Z H c m)(x:m.tk=tk)(nd:((iu n).map (·.tk)).Nodup)(e:H c=some (.ins Z.c i (xY m kk t))):
 eE Z (upd H c (.ins Z.c i (xY {m with gv:=true} kk t))) k {n with pg:=n.pg.map λp=>{p with cs:=p.cs.map (mz tk)}}:=by
 have kt:Kt Z H (upd H c (.ins Z.c i (xY {m with gv:=true} kk t))):=Kt.ins e q.kc;obtain⟨dl,f⟩:=d.ob;obtain⟨F,G,I⟩:=d.at_c S;have o:F.tk=tk:=(Ny T G).symm.trans x;refine⟨⟨dl,?_⟩,?_,?_,d.n1,d.n2,d.n3⟩
 ·rw[c7 (λz=>by
   rw[z,e]at f;injection f with f
   injection f with f
   exact q.cl f)];exact f
 ·rw[c7 (λz=>by have:=d.ls;rw[z,e]at this;cases this)];exact d.ls
 ·have one:∀(b:Zl)(y:Cl),iU Z H b y->(b,y)∈k.cs.zip (iu n)->iU Z (upd H c (.ins Z.c i (xY {m with gv:=true} kk t))) b (mz tk y):=by
   intro b y r j;by_cases z:b=c
   ·subst z;obtain⟨U,J,L,M,N,O,Q⟩:=r.ex;have a:=N;rw[e]at a;injection a with a
    injection a with _ e2 e3
    have v:m.tk=y.tk:=by injection e3 with e3;injection e3 with _ e3;injection e3
    have B:m.tm=y.tm:=by injection e3 with _ e3;injection e3 with e3 _;injection e3 with _ e3;injection e3
    have C:kk=J:=by injection e3 with _ e3;injection e3 with _ e3;injection e3 with e3 _;injection e3 with _ e3;injection e3
    have D:t=M:=by injection e3 with _ e3;injection e3 with _ e3;injection e3 with _ e3;injection e3 with e3 _;injection e3 with _ e3;injection e3
    subst C D;have E:mz tk y={y with gv:=true}:=by unfold mz;rw[aac (by rw[<-v];exact x)]
    rw[E];refine⟨i,kk,L,t,?_,O.kt kt,kt.tk _ _ Q⟩;rw[a_];show some (HO.ins Z.c i [("ticket",.int m.tk),("time",.int m.tm),("form",.ref kk),("filled",.ref t),("given",.bl true)])=some (HO.ins Z.c i [("ticket",.int y.tk),("time",.int y.tm),("form",.ref kk),("filled",.ref t),("given",.bl true)]);rw[v,B]
   ·have:y.tk≠tk:=λh=>z (zZ nd j I (h.trans o.symm));unfold mz;rw[aab this];exact r.upd kt z
  refine Pd.mapR (λs p⟨r,j⟩=>?_) d.pg.both;obtain⟨R,g⟩:=r.ob;refine⟨⟨R,?_⟩,?_,?_⟩
  ·rw[c7 (λz=>by
    rw[z,e]at g;injection g with g
    injection g with g
    exact q.cp g)];exact g
  ·rw[c7 (λz=>by have:=r.ls;rw[z,e]at this;cases this)];exact r.ls
  ·refine Pd.mapR (λb y⟨A,l⟩=>one b y A ?_) r.cs.both;rw[d.zips];exact aaM.mpr ⟨(s,p),j,l⟩
inductive QV(Z:LC)(vs:List V)(H:Hp)(Q:VK)(E:XK):Prop
 |mk (k:LA) (n:Ln) (tk:Int):vs=[.ref k.a,.int tk]->eE Z H k n->k.cs.length<=900->n.pg.length<=900->((iu n).map (·.tk)).Nodup->(∃r m,wait n=r++[m]/\m.tk=tk)->(∀H',eE Z H' k (yt tk n)->Mv Z k H k H'->Q .non H')->QV Z vs H Q E
def U4:du ["self","ticket","claim"] ["self","ticket"] (b_ (lM 10)):=by ext
def VD(F:ir K "give" "Lane.give" (lM 10) f J)(L:LZ K mg Z)(M:MD K Z.l "last_waiting" "Lane.last_waiting" (lM 8) ["self","ticket"] I i)(Y:dm P w K mg base dU 4 I i ["self","ticket"] (JG Z)):dm P w K mg base dU 5 f J ["self","ticket"] (QV Z):=by refine F.ok U4 (by ext) λN A r s H vs Q E O h=>?_;obtain⟨k,n,tk,rfl,y,S,T,nd,U,q⟩:=h;refine⟨_,(bK (jj 2 U4.nd (eO (E:=E0) (pv 0) L.lc M.M Y O M.b .nil dR (aK (pv 1) cZ))) (bK (dY (pv 2) lD rfl) (d8 (jh (pv 0) dh nP)))),?_⟩;obtain⟨W,e⟩:=y.ob;refine⟨_,rfl,k.a,W,_,rfl,e,rfl,_,rfl,k,n,tk,rfl,y,S,T,U,λc m B C D G mm R=>?_⟩;obtain⟨j,kk,a,t,z,_⟩:=id G.ex;have v:=y.same C;refine⟨_,rfl,c,Z.c,j,_,rfl,z,L.cc,L.c5,(show 5<1000 by decide),?_⟩;have d:eE Z (upd B c (.ins Z.c j (gJ "given" (.bl true) (xY m kk t)))) k {n with pg:=n.pg.map λp=>{p with cs:=p.cs.map (mz tk)}}:=v.setC L.ok D G R nd z;have g:=(Mv.same (Z:=Z) (k:=k) C).trans (Mv.ins (o:=.ins Z.c j (gJ "given" (.bl true) (xY m kk t))) z (.inl rfl) (LA.c_own D));generalize upd B c (.ins Z.c j (gJ "given" (.bl true) (xY m kk t)))=X at d g|-;obtain⟨b,l⟩:=d.ob;refine⟨_,rfl,k.a,Z.l,b,_,_,rfl,l,L.lc,L.l9,rfl,_,_,rfl,rfl,b,_,l,(show 12<1000 by decide),?_⟩;have x:eE Z (upd X k.a (.ins Z.l b (gJ "given_in" (.int (n.giv+1)) (Ew k.lp {n with pg:=n.pg.map λp=>{p with cs:=p.cs.map (mz tk)}})))) k (yt tk n):=d.setL L.ok (dx':=b) l (yt tk n) rfl;exact q _ x (g.trans (Mv.ins l (.inr (.inr rfl)) LA.a_own))
end
noncomputable def Fe(tk:Int)(p:Pg):Pg:={p with cs:=Ru tk p.cs}
noncomputable def lZ(p:Pg):Option Int:=p.cs.getLast?.map (·.tk)
noncomputable def mZ(tk sz:Int)(n:Ln):List Pg:=match n.pg[n.pg.length-1]? with
 |none=>n.pg
 |some h=>if lZ h=some tk then n.pg.set (n.pg.length-1) {h with us:=h.us-sz}else n.pg
noncomputable def vG(tk sz:Int)(n:Ln):Ln:={n with pg:=(mZ tk sz n).map (Fe tk),thr:=n.thr+1}
def Gf{b:Type}(g:b->b){a:List b}{i:Nat}{x:b}(h:a[i]?=some x):((a.take i).map g++a.drop i).set i (g x)=(a.take (i+1)).map g++a.drop (i+1):=by
 have c:i<a.length:=(aar.mp h).1;have e:a[i]=x:=(aar.mp h).2;have d:((a.take i).map g).length=i:=by rw[aad,aaS];omega
 rw[List.set_append_right _ _ (by omega),d,Nat.sub_self,iQ h,aaw,acs c,abB,acr];rfl
def JB{b:Type}(g:b->b){a:List b}{i:Nat}{x:b}(h:a[i]?=some x):((a.take i).map g++a.drop i)[i]?=some x:=by
 have d:i<a.length:=(aar.mp h).1;have c:((a.take i).map g).length=i:=by rw[aad,aaS];omega
 rw[abY (by omega),c,Nat.sub_self,List.getElem?_drop];exact h
section
variable{P:ZE}{w:ZH}{K:Zs}{mg:Y1}{base:ZN}{Z:LC}
def Mv.insN(s:di H f)(e:f b=some (.ins C h fs))(i:C=Z.c\/C=Z.p\/C=Z.l)(j:b∈k.own)(n:∀c∈d.own,c∈k.own\/H c=none)(p:d.a=k.a)(q:∀l∈d.ls,l∈k.ls\/H l=none)(g:d.lp=k.lp:=by rfl):Mv Z k H d (upd f b o):=by have m:=(Mv.same (Z:=Z) (k:=k) s).trans (Mv.ins (Z:=Z) (k:=k) (o:=o) e i j);exact⟨m.out,q,m.gr,p,g,m.oth,n⟩
inductive Qd(Z:LC)(vs:List V)(H:Hp)(Q:VK)(E:XK):Prop
 |mk (k:LA) (n:Ln) (tk sz:Int):vs=[.ref k.a,.int tk]->eE Z H k n->k.cs.length<=900->n.pg.length<=900->(∃r m,wait n=r++[m]/\m.tk=tk)->((∀m∈wait n,m.tk=tk->1+(m.fi.length:Int)=sz))->(∀k' H',eE Z H' k' (vG tk sz n)->Mv Z k H k' H'->k'.cs.Sublist k.cs->Q .non H')->Qd Z vs H Q E
def Mx:du ["self","ticket","claim","head","page"] ["self","ticket"] (b_ (lM 11)):=by ext
def Vl{f fW fC fO:Zl}{fd fdW fdC fdO:ZB}(F:ir K "throw" "Lane.throw" (lM 11) f fd)(T:Txt K mg)(L:LZ K mg Z)(MW:MD K Z.l "last_waiting" "Lane.last_waiting" (lM 8) ["self","ticket"] fW fdW)(GW:dm P w K mg base dU 4 fW fdW ["self","ticket"] (JG Z))(MC:MD K Z.k "cells" "Kind.cells" (kM 2) ["self"] fC fdC)(MO:MD K Z.p "without" "Page.without" (gM 2) ["self","ticket"] fO fdO):dm P w K mg base dU 5 f fd ["self","ticket"] (Qd Z):=by
 have GC:dm P w K mg base dU 1 fC fdC ["self"] (qP Z.k):=yV MC.F T L.kc;have GO:dm P w K mg base dU 1 fO fdO ["self","ticket"] (Ra Z):=S_ MO.F L;refine F.ok Mx (by ext) λcdv A outer s H vs Q E hr h=>?_;obtain⟨k,n,tk,sz,rfl,ln,hc,hl,wl,hsz,q⟩:=h;have hr1:eZ 1 _:=hr.mono (by decide);refine⟨_,(bK (jj 2 Mx.nd (eO (E:=E0) (pv 0) L.lc MW.M GW hr MW.b .nil dR (aK (pv 1) cZ))) (bK (jj 3 Mx.nd (dZ g_ (dq (pv 0) rfl) (oh lV dh))) (bK (eX (PW.pt (oK (dM yI (dD dO (by rfl) T.len gD (aK (dq (pv 3) rfl) cZ)) dh (dN _)) (mQ (dM gG (dq (dZ g_ (dq (pv 3) rfl) (oh lV dh)) rfl) (pv 1) (dN _))))) (d8 (jh (pv 3) (gb (E:=E0) (dq (pv 2) rfl) L.kc.cl MC.M GC hr1 MC.b .nil dR) Q9)) dI) (bK (j6 aaO rfl (h_ (dq (pv 0) rfl)) (jP 4 Mx.nd) (d8 (dY (pv 4) (eO (E:=E0) (pv 4) L.pc MO.M GO hr1 MO.b .nil dR (aK (pv 1) cZ)) rfl))) (d8 (jh (pv 0) dh nP)))))),?_⟩;obtain⟨dx,e⟩:=ln.ob;refine⟨_,rfl,k.a,dx,_,rfl,e,rfl,_,rfl,k,n,tk,rfl,ln,hc,hl,wl,λc m H1 s1 mc cl mm em=>?_⟩;have ln1:=ln.same s1;have ne:n.pg≠[]:=λz=>by obtain⟨r,m',ew,_⟩:=wl;unfold wait at ew;rw[z]at ew;simp at ew
 have esz:=hsz m mm em;obtain⟨dc,kk,a,t,ec,ka,_⟩:=id cl.ex;have pl:=ln1.pg.len;have n0:0<n.pg.length:=ab5.mpr ne;obtain⟨s0,hs0⟩:∃s,k.ps[k.ps.length-1]?=some s:=⟨_,aaz (by omega)⟩;obtain⟨m0,hm0,r0⟩:=ln1.pg.at hs0;rw[pl]at hm0 hs0;obtain⟨d0,e0⟩:=r0.ob;obtain⟨dx1,e1⟩:=ln1.ob;have ex:(k.ps.map λs=>V.ref s.p)[(k.ps.map λs=>V.ref s.p).length-1]?=some (.ref s0.p):=by rw[aad,aao,pl,hs0];rfl
 refine⟨_,rfl,k.a,Z.l,dx1,_,_,rfl,e1,L.lc,L.l4,rfl,_,rfl,k.lp,_,_,_,rfl,rfl,fj.of ln1.ls,nY ex,?_⟩
 try dsimp only[eN]
 refine rB (λσ' H'=>σ'=[some (.ref k.a),some (.int tk),some (.ref c),some (.ref s0.p),none]/\eE Z H' k {n with pg:=mZ tk sz n }/\Mv Z k H k H') ?nx λN hN=>?st
 case st=>
  have cl0:=r0.cs.len;refine⟨_,rfl,s0.p,Z.p,d0,_,_,rfl,e0,L.pc,L.p1,rfl,s0.l,_,rfl,.inl (fj.of r0.ls),_,_,rfl,rfl,_,rfl,?_⟩;rw[aad,cl0];rcases acW m0.cs with e00|⟨r9,x9,e00⟩
  ·refine gW (by rw[e00];rfl) (gW rfl (hN _ _ ⟨rfl,?_,Mv.same s1⟩));have:mZ tk sz n=n.pg:=by unfold mZ;rw[hm0];show(if lZ m0=some tk then _ else n.pg)=n.pg;rw[aab (by unfold lZ;rw[e00];simp)]
   rw[this];exact ln1
  ·rw[acX]at e00;have h9:m0.cs[m0.cs.length-1]?=some x9:=by rw[e00];simp
   obtain⟨c9,hc9,r9'⟩:=r0.cs.at' h9;obtain⟨d9,k9,a9,t9,e9,_⟩:=r9'.ex;have ex9:(s0.cs.map V.ref)[(s0.cs.map V.ref).length-1]?=some (.ref c9):=by rw[aad,aao,cl0,hc9];rfl
   have lt9:lZ m0=some x9.tk:=by unfold lZ;rw[e00];simp
   refine j5 (by rw[e00];simp) ?_;refine⟨_,rfl,s0.p,Z.p,d0,_,_,rfl,e0,L.pc,L.p1,rfl,_,rfl,s0.l,_,_,_,rfl,rfl,fj.of r0.ls,nY ex9,c9,Z.c,d9,_,_,rfl,e9,L.cc,L.c1,rfl,_,rfl,rfl,_,rfl,?_⟩;by_cases h:x9.tk=tk
   ·refine j5 (by simp[h]) ?_;obtain⟨⟨dk,ek⟩,_⟩:=id ka;refine⟨_,rfl,s0.p,Z.p,d0,_,_,rfl,e0,L.pc,L.p2,rfl,_,rfl,c,Z.c,dc,_,_,rfl,ec,L.cc,L.c3,rfl,kk,dk,_,rfl,ek,sY m.nm a (by ext) (by ext),kk,a,m.nm,m.fi,rfl,ka,_,_,rfl,rfl,d0,_,e0,(show 3<1000 by decide),?_⟩;rw[esz];refine hN _ _ ⟨rfl,?_,(Mv.same s1).trans (Mv.ins e0 (.inr (.inl rfl)) (LA.p_own hs0))⟩;have:mZ tk sz n=n.pg.set (n.pg.length-1) {m0 with us:=m0.us-sz }:=by unfold mZ;rw[hm0];show(if lZ m0=some tk then _ else n.pg)=_;rw[aac (by rw[lt9,h])]
    rw[this];exact ln1.setP L.ok (dx':=d0) hs0 hm0 (m':={m0 with us:=m0.us-sz }) rfl
   ·refine gW (by simp[h]) (hN _ _ ⟨rfl,?_,Mv.same s1⟩);have:mZ tk sz n=n.pg:=by unfold mZ;rw[hm0];show(if lZ m0=some tk then _ else n.pg)=n.pg;rw[aab (by rw[lt9];intro z;injection z with z;exact h z)]
    rw[this];exact ln1
 case nx=>
  have sl:(mZ tk sz n).length=n.pg.length:=by
   unfold mZ;rw[hm0];show(if lZ m0=some tk then _ else n.pg).length=_;split
   ·rw[acY]
   ·rfl
  clear ln1 e1 r0 e0 cl ka ec;rintro σ' H2⟨rfl,ln2,mv2⟩;generalize hpg:mZ tk sz n=pg at ln2 sl;obtain⟨dx2,e2⟩:=ln2.ob;refine⟨_,rfl,k.a,Z.l,dx2,_,_,rfl,e2,L.lc,L.l4,rfl,k.lp,rfl,⟨_,fj.of ln2.ls⟩,?_⟩;refine iW (xs:=k.ps.map λs=>V.ref s.p) (λi σ' H'=>(∃v,σ'=[some (.ref k.a),some (.int tk),some (.ref c),some (.ref s0.p),v])/\∃k1,k1.lp=k.lp/\(k1.ps.map λs=>V.ref s.p)=(k.ps.map λs=>V.ref s.p)/\k1.cs.Sublist k.cs/\eE Z H' k1 {n with pg:=(pg.take i).map (Fe tk)++pg.drop i }/\Mv Z k H k1 H') ⟨⟨_,rfl⟩,k,rfl,rfl,abq _,ln2,mv2⟩ ?_ ?_ ?_
  ·rintro i σ H' _⟨_,k1,h1,h2,_,l1,_⟩;have:=l1.ls;rw[h1,h2]at this;exact fj.of this
  ·rintro i x σ H3 hx⟨⟨v,rfl⟩,k1,h1,h2,sb1,ln3,mv3⟩;rw[<-h2]at hx;obtain⟨s5,hs5,rfl⟩:=mY hx;obtain⟨m5,hm5,r5⟩:=ln3.pg.at hs5;obtain⟨d5,e5⟩:=r5.ob;have c9:s5.cs.length<=900:=aag (uY (aaj hs5)) (aag sb1.length_le hc);dsimp only[eN,List.set];refine⟨_,rfl,s5.p,d5,_,rfl,e5,rfl,_,rfl,s5,m5,tk,rfl,r5,by omega,λl as H4 s4 hln hl4 pd4 sb4=>?_⟩;refine⟨_,rfl,s5.p,Z.p,d5,_,rfl,s4 _ _ e5,L.pc,L.p1,(show 3<1000 by decide),?_⟩;have e5':=s4 _ _ e5;have ln4:=ln3.same s4;have r5':=r5.same s4;have nls:l∉k1.ls:=λz=>by obtain⟨ys,ey⟩:=ln3.has_ls z;rw[hln]at ey;cases ey
   have pl3:=ln3.pg.len;have hmi:pg[i]?=some m5:=by
    have il:i<pg.length:=by
     have:=(aar.mp hm5).1;have e9:((pg.take i).map (Fe tk)++pg.drop i).length=pg.length:=by simp;omega
     have this':i<((pg.take i).map (Fe tk)++pg.drop i).length:=this;omega
    have:=JB (Fe tk) (aaz il);have h5:((pg.take i).map (Fe tk)++pg.drop i)[i]?=some m5:=hm5;rw[this]at h5;rw[aaz il];exact h5
   have ln5:eE Z (upd H4 s5.p (.ins Z.p d5 (gJ "claims" (.ref l) (Jk s5.l m5)))) {k1 with ps:=k1.ps.set i ⟨s5.p,l,as⟩ } {n with pg:=((pg.take i).map (Fe tk)++pg.drop i).set i (Fe tk m5) }:=by
    refine ln4.setI (i:=i) (s':=⟨s5.p,l,as⟩) (m':=Fe tk m5) hs5 rfl (.inr nls) (ln4.n3.sublist (kj hs5 sb4)) ?_ ?_ ?_ ?_
    ·refine⟨⟨d5,a_⟩,?_,?_⟩
     ·show upd H4 s5.p _ l=_;rw[c7 (j9 hl4 e5' (by intro z;cases z))];exact hl4
     ·refine Pd.mapM (λb mb y qq=>qq.upd (Kt.ins e5' L.ok.kp) λz=>?_) pd4;obtain⟨d',f',e'⟩:=qq.ins;rw[z,e5']at e';injection e' with e'
      injection e' with e'
      exact L.ok.cp e'.symm
    ·intro o eo;obtain⟨d',e'⟩:=ln4.ob;rw[c7 (λz=>by
      rw[z,e5']at e';injection e' with e'
      injection e' with e'
      exact L.ok.pl e')];exact eo
    ·intro o eo;rw[c7 (λz=>by have:=ln4.ls;rw[z,e5']at this;cases this)];exact eo
    ·intro j u v' nj eu qq;exact qq.updP L.ok e5' (Fy ln4.n1 nj (by rw[aao,eu];rfl) (by rw[aao,hs5];rfl))
   rw[Gf (Fe tk) hmi]at ln5;refine⟨⟨_,rfl⟩,{k1 with ps:=k1.ps.set i ⟨s5.p,l,as⟩ },h1,?_,(kj (s':=⟨s5.p,l,as⟩) hs5 sb4).trans sb1,ln5,mv3.trans (Mv.insN s4 e5' (.inr (.inl rfl)) (LA.p_own hs5) (λb mb=>.inl (by
    rcases aai.mp mb with rfl|mb
    ·exact aal ..
    ·rcases aak.mp mb with mb|mb
     ·rw[show({k1 with ps:=k1.ps.set i ⟨s5.p,l,as⟩ }:LA).ps=k1.ps.set i ⟨s5.p,l,as⟩from rfl,eY (λx:PA=>x.p) (s':=⟨s5.p,l,as⟩) hs5 rfl]at mb;exact aah _ (aak.mpr (.inl mb))
     ·exact aah _ (aak.mpr (.inr ((kj (s':=⟨s5.p,l,as⟩) hs5 sb4).subset mb))))) rfl λb mb=>?_)⟩
   ·rw[<-h2];exact eY (λs:PA=>V.ref s.p) (s':=⟨s5.p,l,as⟩) hs5 rfl
   ·rcases aai.mp mb with rfl|mb
    ·exact .inl (aal ..)
    ·rw[show({k1 with ps:=k1.ps.set i ⟨s5.p,l,as⟩ }:LA).ps=k1.ps.set i ⟨s5.p,l,as⟩from rfl,abA]at mb;rcases abf mb with mb|rfl
     ·exact .inl (aah _ mb)
     ·exact .inr hln
  ·rintro σ H3⟨⟨v,rfl⟩,k1,h1,h2,sb1,ln3,mv3⟩;have e9:(k.ps.map λs=>V.ref s.p).length=pg.length:=by rw[aad,ln2.pg.len]
   rw[e9,aaL,acu,aaQ]at ln3;obtain⟨dx3,e3⟩:=ln3.ob;rw[mv3.a]at e3;refine⟨_,rfl,k.a,Z.l,dx3,_,_,rfl,e3,L.lc,L.l10,rfl,_,_,rfl,rfl,dx3,_,e3,(show 12<1000 by decide),?_⟩;have e3':H3 k1.a=some (.ins Z.l dx3 (Ew k1.lp {n with pg:=pg.map (Fe tk) })):=by rw[mv3.a];exact e3
   have ln4:=ln3.setL L.ok (dx':=dx3) e3' {n with pg:=pg.map (Fe tk),thr:=n.thr+1 } rfl;rw[mv3.a]at ln4;refine q k1 _ ?_ (mv3.trans (Mv.ins e3 (.inr (.inr rfl)) (by rw[<-mv3.a];exact LA.a_own))) sb1;unfold vG;rw[hpg];exact ln4
end
noncomputable def lG(f:Int->List (Int×Cl)):List Cl->Int->List (Int×Cl)
 |[],q=>f q
 |c::cs,q=>if c.gv=true then(q,c)::lG f cs (q+1)else[]
noncomputable def kW:List Pg->Int->List (Int×Cl)
 |[],_=>[]
 |p::r,q=>lG (kW r) p.cs (q+p.go)
noncomputable def stand(n:Ln):List (Int×Cl):=kW n.pg 0
theorem tY(h:∀q,(f q).length<=b):∀(cs:List Cl)(q:Int),(lG f cs q).length<=cs.length+b
 |[],q=>by have:=h q;simp only[lG,aa6];omega
 | c::cs,q=>by
   have:=tY h cs (q+1);unfold lG;split
   ·simp only[aav];omega
   ·simp
theorem oW:∀(a:List Pg)(q:Int),(kW a q).length<=(a.flatMap (·.cs)).length
 |[],_=>by simp[kW]
 | p::r,q=>by rw[aaA,aas];exact tY (λb=>oW r b) p.cs _
inductive Tg where
 |lost(n:Int)
 |ev(pl:Int)(c:Cl)
noncomputable def nQ(H:Hp)(x:V)(q:Int×Cl):Prop:=∃b t,x=.ref b/\H b=some (.tup [.str "event",.int q.1,.int q.2.tm,.str q.2.nm,.ref t])/\H t=some (.tup (q.2.vs.map V.int))
def nQ.tk(h:nQ H x q)(k:TK H a):nQ a x q:=by obtain⟨b,t,e,c,d⟩:=h;exact⟨b,t,e,k _ _ c,k _ _ d⟩
def wU(s:di H a):TK H a:=λb c e=>s _ _ e
section
variable{P:ZE}{w:ZH}{K:Zs}{mg:Y1}{base:ZN}{Z:LC}
inductive QC(Z:LC)(vs:List V)(H:Hp)(Q:VK)(E:XK):Prop
 |mk (c:Zl) (m:Cl) (pl:Int):vs=[.ref c,.int pl]->iU Z H c m->(∀(x:V)H',di H H'->nQ H' x (pl,m)->Q x H')->QC Z vs H Q E
def Z7:du ["self","place"] ["self","place"] (b_ (cM 1)):=by ext
def Wa(F:ir K "told_at" "Claim.told_at" (cM 1) f j)(L:LZ K mg Z):dm P w K mg base dU 1 f j ["self","place"] (QC Z):=by refine F.ok Z7 (by ext) λl A d s H vs Q E r h=>?_;obtain⟨c,m,v,rfl,n,q⟩:=h;refine⟨_,(d8 (dw (gw (aK dC (aK (pv 1) (aK (dq (pv 0) rfl) (aK (dq (dq (pv 0) rfl) rfl) (aK (dq (pv 0) rfl) cZ)))))))),?_⟩;obtain⟨g,kk,a,t,e,⟨⟨dk,o⟩,_⟩,p⟩:=n.ex;refine⟨_,rfl,_,rfl,c,Z.c,g,_,_,rfl,e,L.cc,L.c2,rfl,_,rfl,c,Z.c,g,_,_,rfl,e,L.cc,L.c3,rfl,kk,Z.k,dk,_,_,rfl,o,L.kc.cl,L.kc.nN,vQ m.nm a,_,rfl,c,Z.c,g,_,_,rfl,e,L.cc,L.c4,rfl,(by ext),λb i=>?_⟩;exact q _ _ (di.new i) ⟨b,t,rfl,a_,di.new i _ _ p⟩
inductive QS(Z:LC)(vs:List V)(H:Hp)(Q:VK)(E:XK):Prop
 |mk (k:LA) (n:Ln):vs=[.ref k.a]->eE Z H k n->k.cs.length<=900->n.pg.length<=900->(∀(l:Zl)(xs:List V)(H':Hp),di H H'->H' l=some (.lst xs)->Pd (nQ H') xs (stand n)->Q (.ref l) H')->QS Z vs H Q E
def Az:du ["self","events","place","page","claim"] ["self"] (b_ (lM 12)):=by ext
def V9(F:ir K "standing" "Lane.standing" (lM 12) f fd)(L:LZ K mg Z)(MT:MD K Z.c "told_at" "Claim.told_at" (cM 1) ["self","place"] fT fdT):dm P w K mg base dU 2 f fd ["self"] (QS Z):=by
 have GT:dm P w K mg base dU 1 fT fdT ["self","place"] (QC Z):=Wa MT.F L;refine F.ok Az (by ext) λam A ae s H vs Q E hr h=>?_;obtain⟨k,n,rfl,G,hc,hl,q⟩:=h;refine⟨_,(bK (jj 1 Az.nd (gC cZ)) (bK (jj 2 Az.nd dh) (bK (j6 aaO rfl (h_ (dq (pv 0) rfl)) (jP 3 Az.nd) (bK (Iz (i:=2) Az.nd rfl (.inl rfl) (dq (pv 3) rfl) Gu) (d8 (j6 aaO rfl (h_ (dq (pv 3) rfl)) (jP 4 Az.nd) (bK (eX (jm (iT (dq (pv 4) rfl))) (d8 (dw (pv 1))) dI) (bK (fc (lE aaZ aa3 aa8 j4 (pv 1) (aK (eO (E:=E0) (pv 4) L.cc MT.M GT hr MT.b .nil dR (aK (pv 2) cZ)) cZ))) (d8 (Iz (i:=2) Az.nd rfl (.inl rfl) dh Gu)))))))) (d8 (dw (pv 1)))))),?_⟩;obtain⟨dx,e⟩:=G.ob;have O:=G.pg.len;have af:(iu n).length<=900:=by
  have:k.cs.length=(iu n).length:=by
   have:∀{ps:List PA}{pg:List Pg},Pd (iZ Z H) ps pg->(ps.flatMap (·.cs)).length=(pg.flatMap (·.cs)).length:=by
    intro ps pg h;induction h with
    |nil=>rfl
    |cons r _ ih=>rw[aaA,aaA,aas,aas,ih,r.cs.len]
   exact this G.pg
  omega
 have sl:(stand n).length<=900:=aag (oW n.pg 0) af;refine⟨(by ext),λl D=>?_⟩;have big:1000<=sizeLine:=by decide
 have aa:=G.same (di.new (o:=.lst []) D);obtain⟨ai,e0⟩:=aa.ob;refine⟨_,rfl,k.a,Z.l,ai,_,_,rfl,e0,L.lc,L.l4,rfl,k.lp,rfl,⟨_,fj.of aa.ls⟩,?_⟩;refine iW (xs:=k.ps.map λs=>V.ref s.p) (λi N v=>di H v/\∃u3 Y B S O,N=[some (.ref k.a),some (.ref l),some (.int O),u3,Y]/\v l=some (.lst B)/\Pd (nQ v) B S/\S++kW (n.pg.drop i) O=stand n) ⟨di.new D,none,none,[],[],0,rfl,a_,.nil,rfl⟩ (λi X v _ z=>fj.of (z.1 _ _ G.ls)) ?_ ?_
 ·rintro i x X H1 hx⟨s1,u3,Y,B,S,ad,rfl,T,pd,M⟩;obtain⟨I,J,rfl⟩:=mY hx;obtain⟨U,R,r0⟩:=(G.same s1).pg.at J;obtain⟨d0,ac⟩:=r0.ob;have hd:n.pg.drop i=U::n.pg.drop (i+1):=by have il:=(aar.mp R).1;rw[acs il,(aar.mp R).2]
  rw[hd]at M;have M:S++lG (kW (n.pg.drop (i+1))) U.cs (ad+U.go)=stand n:=M;dsimp only[eN,List.set];refine⟨_,rfl,_,rfl,I.p,Z.p,d0,_,_,rfl,ac,L.pc,L.p3,rfl,_,_,rfl,rfl,?_⟩;dsimp only[List.set];refine⟨_,rfl,I.p,Z.p,d0,_,_,rfl,ac,L.pc,L.p1,rfl,I.l,rfl,⟨_,fj.of r0.ls⟩,?_⟩;have ao:I.l≠l:=λz=>by obtain⟨W,_,rr⟩:=G.pg.at J;have:=rr.ls;rw[z,D]at this;cases this
  have ag:∀v,di H v->v I.l=some (.lst (I.cs.map V.ref)):=λv s'=>by obtain⟨W,_,rr⟩:=G.pg.at J;exact s' _ _ rr.ls
  refine iW (xs:=I.cs.map V.ref) (λj N v=>di H v/\∃Y B S O,N=[some (.ref k.a),some (.ref l),some (.int O),some (.ref I.p),Y]/\v l=some (.lst B)/\Pd (nQ v) B S/\S++lG (kW (n.pg.drop (i+1))) (U.cs.drop j) O=stand n) ⟨s1,_,B,S,_,rfl,T,pd,M⟩ (λj X v _ z=>fj.of (ag _ z.1)) ?_ ?_
  ·rintro j x X H2 al⟨s2,v4,y,S2,p,rfl,g,C,d⟩;obtain⟨c,aj,rfl⟩:=mY al;obtain⟨W,ak,rr⟩:=(G.same s2).pg.at J;have:W=U:=by have:=ak.symm.trans R;injection this
   subst this;obtain⟨m,hm,r⟩:=rr.cs.at aj;obtain⟨dc,kk,a,t,ec,_⟩:=id r.ex;have ah:W.cs.drop j=m::W.cs.drop (j+1):=by have jl:=(aar.mp hm).1;rw[acs jl,(aar.mp hm).2]
   rw[ah]at d;have d:S2++(if m.gv=true then(p,m)::lG (kW (n.pg.drop (i+1))) (W.cs.drop (j+1)) (p+1)else[])=stand n:=d;have ap:S2.length<=900:=by have:=aaB List.length d;rw[aas]at this;omega
   have aq:=C.len;dsimp only[eN,List.set];refine⟨_,rfl,c,Z.c,dc,_,_,rfl,ec,L.cc,L.c5,rfl,_,rfl,?_⟩;cases hg:m.gv with
   | false=>rw[hg,aab (by decide),aaQ]at d;subst d;exact j5 rfl ⟨_,rfl,q l y _ s2 g C⟩
   | true=>
     rw[hg,aac rfl]at d;refine gW rfl ?_;refine⟨_,rfl,.inl ⟨rfl,_,fj.of g⟩,_,rfl,c,dc,_,rfl,ec,rfl,_,rfl,c,m,p,rfl,r,λx H3 s3 ev=>?_⟩;refine⟨l,y,_,rfl,rfl,s3 _ _ g,by omega,?_⟩;have ab:TK H3 (upd H3 l (.lst (y++[x]))):=TK.lst (s3 _ _ g);refine⟨_,rfl,_,_,rfl,rfl,λb o eo=>?_,_,y++[x],S2++[(p,m)],p+1,rfl,a_,Pd.app (.cons (ev.tk ab) .nil) (C.map λ_ _ z=>(z.tk (wU s3)).tk ab),?_⟩
     ·rw[c7 (dg eo D)];exact s3 _ _ (s2 _ _ eo)
     ·rw[acr];exact d
  ·rintro X H2⟨s2,v4,y,S2,p,rfl,g,C,d⟩;refine⟨s2,_,_,y,S2,p,rfl,g,C,?_⟩;have:U.cs.drop (I.cs.map V.ref).length=[]:=by rw[aad,r0.cs.len,acu]
   rw[this]at d;exact d
 ·rintro X H1⟨s1,u3,Y,B,S,ad,rfl,T,pd,M⟩;have:n.pg.drop (k.ps.map λs=>V.ref s.p).length=[]:=by rw[aad,O,acu]
  rw[this]at M;simp only[kW,aaQ]at M;subst M;exact⟨_,rfl,q l B _ s1 T pd⟩
end
noncomputable def lQ:Int->List (Int×Cl)->List Tg
 |_,[]=>[]
 |pl,(q,c)::r=>if pl<q then .lost (q-pl)::.ev q c::lQ (q+1) r else if q=pl then .ev q c::lQ (q+1) r else lQ pl r
noncomputable def oV(H:Hp)(x:V):Tg->Prop
 |.lost n=>∃b,x=.ref b/\H b=some (.tup [.str "lost",.int n])
 |.ev a c=>nQ H x (a,c)
theorem oV.tk(h:oV H x t)(k:TK H a):oV a x t:=by
 cases t with
 | lost n=>obtain⟨b,e,h⟩:=h;exact⟨b,e,k _ _ h⟩
 |ev d c=>exact nQ.tk h k
noncomputable def jy(n:Ln):List Tg:=lQ n.told (stand n)
section
variable{P:ZE}{w:ZH}{K:Zs}{mg:Y1}{base:ZN}{Z:LC}
inductive Qp(vs:List V)(H:Hp)(Q:VK)(E:XK):Prop
 |mk (le:Zl) (xs:List V) (es:List (Int×Cl)) (pl:Int):vs=[.ref le,.int pl]->H le=some (.lst xs)->Pd (nQ H) xs es->es.length<=900->(∀(l:Zl)(ys:List V)(H':Hp),di H H'->H l=none->H' l=some (.lst ys)->Pd (oV H') ys (lQ pl es)->Q (.ref l) H')->Qp vs H Q E
def Jw:du ["events","place","told","event"] ["events","place"] (b_ (top 54)):=by ext
def Vb(F:ir K "told_from" "told_from" (top 54) f fd):dm P w K mg base dU 1 f fd ["events","place"] Qp:=by
 refine F.ok Jw (by ext) λaf A aa s H vs Q E hr h=>?_;obtain⟨le,xs,B,pl,rfl,I,pe,el,q⟩:=h;refine⟨_,(bK (jj 2 Jw.nd (gC cZ)) (bK (j6 aaO rfl (h_ (pv 0)) (jP 3 Jw.nd) (bK (eX (dM yI (dZ eU (pv 3) dh) (pv 1) (dN _)) (d8 (fc (lE aaZ aa3 aa8 j4 (pv 2) (aK (gw (aK dC (aK (fX jR (dZ eU (pv 3) dh) (pv 1)) cZ))) cZ)))) dI) (d8 (eX (dM Bg (dZ eU (pv 3) dh) (pv 1) (dN _)) (bK (fc (lE aaZ aa3 aa8 j4 (pv 2) (aK (pv 3) cZ))) (d8 (jj 1 Jw.nd (fX iI (dZ eU (pv 3) dh) dh)))) dI)))) (d8 (dw (pv 2))))),?_⟩;refine⟨(by ext),λl m=>?_⟩;have big:2000<=sizeLine:=by decide
 have xl:=pe.len;have ag:le≠l:=dg I m;refine⟨_,rfl,le,rfl,⟨_,fj.of (di.new m _ _ I)⟩,?_⟩;refine iW (xs:=xs) (λi ab W=>di H W/\∃u d ys S,ab=[some (.ref le),some (.int d),some (.ref l),u]/\W l=some (.lst ys)/\Pd (oV W) ys S/\S++lQ d (B.drop i)=lQ pl B/\S.length<=2*i) ⟨di.new m,none,pl,[],[],rfl,a_,.nil,rfl,aaf _⟩ (λi σ W _ z=>fj.of (z.1 _ _ I)) ?_ ?_
 ·rintro i x σ C hx⟨J,u,d,ys,S,rfl,g,M,r,sl⟩;obtain⟨⟨e,c⟩,hq,b,t,rfl,ad,ae⟩:=pe.at hx;have il:=(aar.mp hq).1;have hd:B.drop i=(e,c)::B.drop (i+1):=by rw[acs il,(aar.mp hq).2]
  rw[hd]at r;have r:S++(if d<e then Tg.lost (e-d)::.ev e c::lQ (e+1) (B.drop (i+1))else if e=d then .ev e c::lQ (e+1) (B.drop (i+1))else lQ d (B.drop (i+1)))=lQ pl B:=r;have yl:=M.len;have L:=J _ _ ad;have O:nQ C (.ref b) (e,c):=⟨b,t,rfl,L,J _ _ ae⟩;dsimp only[eN,List.set];refine⟨_,rfl,b,_,_,_,rfl,rfl,gf.of L,dz (j:=1) rfl,_,rfl,_,_,rfl,rfl,_,rfl,?_⟩;by_cases Y:d<e
  ·refine j5 (by simpa using Y) ?_;rw[aac Y]at r;refine⟨_,rfl,.inl ⟨rfl,_,fj.of g⟩,_,rfl,b,_,_,_,rfl,rfl,gf.of L,dz (j:=1) rfl,_,rfl,_,_,rfl,rfl,(by ext),λp ac=>?_⟩;have D:di C (upd C p (.tup [.str "lost",.int (e-d)])):=di.new ac;have R:(upd C p (.tup [.str "lost",.int (e-d)])) p=some (.tup [.str "lost",.int (e-d)]):=a_;generalize upd C p (.tup [.str "lost",.int (e-d)])=N at D R|-;refine⟨l,ys,_,rfl,rfl,D _ _ g,by omega,?_⟩;have v:TK N (upd N l (.lst (ys++[.ref p]))):=TK.lst (D _ _ g);have s3:di H (upd N l (.lst (ys++[.ref p]))):=λa o y=>by rw[c7 (dg y m)];exact D _ _ (J _ _ y)
   have T:Pd (oV (upd N l (.lst (ys++[.ref p])))) (ys++[.ref p]) (S++[.lost (e-d)]):=Pd.app (.cons ⟨p,rfl,v _ _ R⟩ .nil) (M.map λ_ _ z=>(z.tk (wU D)).tk v);have X:(upd N l (.lst (ys++[.ref p]))) l=some (.lst (ys++[.ref p])):=a_;have G:=v _ _ (D _ _ L);have U:=(O.tk (wU D)).tk v;generalize upd N l (.lst (ys++[.ref p]))=H3 at s3 T X G U|-
   try dsimp only[vd]
   refine⟨_,rfl,b,_,_,_,rfl,rfl,gf.of G,dz (j:=1) rfl,_,rfl,_,_,rfl,rfl,_,rfl,j5 (by simp;omega) ?_⟩;refine⟨_,rfl,.inl ⟨rfl,_,fj.of X⟩,_,rfl,l,_,_,rfl,rfl,X,by rw[aas];simp only[aav,aa6];omega,?_⟩;have n:TK H3 (upd H3 l (.lst (ys++[.ref p]++[.ref b]))):=TK.lst X;refine⟨_,rfl,b,_,_,_,rfl,rfl,gf.of (n _ _ G),dz (j:=1) rfl,_,_,rfl,rfl,?_⟩;refine⟨λa o y=>?_,_,e+1,ys++[.ref p]++[.ref b],S++[.lost (e-d)]++[.ev e c],rfl,a_,Pd.app (.cons (oV.tk (t:=.ev e c) U n) .nil) (T.map λ_ _ z=>z.tk n),?_,?_⟩
   ·rw[c7 (dg y m)];exact s3 _ _ y
   ·rw[<-r];simp
   ·simp only[aas,aav,aa6];omega
  ·rw[aab Y]at r;refine gW (by simpa using Y) ?_
   try dsimp only[vd]
   refine⟨_,rfl,b,_,_,_,rfl,rfl,gf.of L,dz (j:=1) rfl,_,rfl,_,_,rfl,rfl,_,rfl,?_⟩;by_cases R:e=d
   ·rw[aac R]at r;refine j5 (by simp;omega) ?_;refine⟨_,rfl,.inl ⟨rfl,_,fj.of g⟩,_,rfl,l,ys,_,rfl,rfl,g,by omega,?_⟩;have n:TK C (upd C l (.lst (ys++[.ref b]))):=TK.lst g;refine⟨_,rfl,b,_,_,_,rfl,rfl,gf.of (n _ _ L),dz (j:=1) rfl,_,_,rfl,rfl,?_⟩;refine⟨λa o y=>?_,_,e+1,ys++[.ref b],S++[.ev e c],rfl,a_,Pd.app (.cons (oV.tk (t:=.ev e c) O n) .nil) (M.map λ_ _ z=>z.tk n),?_,?_⟩
    ·rw[c7 (dg y m)];exact J _ _ y
    ·rw[<-r];simp
    ·simp only[aas,aav,aa6];omega
   ·rw[aab R]at r;refine gW (by simp;omega) ⟨J,_,d,ys,S,rfl,g,M,r,by omega⟩
 ·rintro σ C⟨J,u,d,ys,S,rfl,g,M,r,sl⟩;rw[xl,acu]at r;simp only[lQ,aaQ]at r;subst r;exact⟨_,rfl,q l ys _ J m g M⟩
inductive L_(Z:LC)(vs:List V)(H:Hp)(Q:VK)(E:XK):Prop
 |mk (k:LA) (n:Ln):vs=[.ref k.a]->eE Z H k n->k.cs.length<=900->n.pg.length<=900->(stand n).length<=900->(∀(l:Zl)(xs:List V)(H':Hp),di H H'->H l=none->H' l=some (.lst xs)->Pd (oV H') xs (jy n)->Q (.ref l) H')->L_ Z vs H Q E
def Z4:du ["self"] ["self"] (b_ (lM 13)):=by ext
def VP(F:ir K "look" "Lane.look" (lM 13) f B)(L:LZ K mg Z)(MS:MD K Z.l "standing" "Lane.standing" (lM 12) ["self"] y a)(S:dm P w K mg base dU 2 y a ["self"] (QS Z))(C:gq K mg "told_from" (top 54) ["events","place"] z b):dm P w K mg base dU 3 f B ["self"] (L_ Z):=by have M:dm P w K mg base dU 1 z b ["events","place"] Qp:=Vb C.F;refine F.ok Z4 (by ext) λc A d s H vs Q E r h=>?_;obtain⟨k,n,rfl,v,N,O,R,q⟩:=h;have p:eZ 1 _:=r.mono (by decide);refine⟨_,(d8 (dw (iJ C M p (aK (gb (E:=E0) (pv 0) L.lc MS.M S r MS.b .nil dR) (aK (dq (pv 0) rfl) cZ))))),?_⟩;obtain⟨x,e⟩:=v.ob;refine⟨_,rfl,k.a,x,_,rfl,e,rfl,k,n,rfl,v,N,O,λl D T g i G=>?_⟩;refine⟨_,rfl,k.a,Z.l,x,_,_,rfl,g _ _ e,L.lc,L.l6,rfl,l,D,_,_,rfl,i,G,R,λI ys U J j m o=>q I ys _ (g.trans J) (e_ g j) m o⟩
end
def eE.tks(g:Z.Ok)(d:eE Z H k n)(m:Mv Z k H c a):TK H a:=λb f e=>m.out b _ e (d.not_ls e (by intro _ z;cases z)) (by intro _ _ _ z;cases z)
structure Gx(mg:Y1):Prop where
 a:∃t,mg "FEWEST_PAGES"=some (.int 2 t)
 b:∃t,mg "MOST_PAGES"=some (.int 16 t)
 c:∃t,mg "LEAST_ROOM"=some (.int 5 t)
 d:∃t,mg "MOST_ROOM"=some (.int 12 t)
noncomputable def m9(a b:Int)(c:Bool):Ln:=⟨[⟨[],0,0⟩],a,b,c,false,0,none,0,0,0,0,0⟩
section
variable{P:ZE}{w:ZH}{K:Zs}{mg:Y1}{base:ZN}{Z:LC}
inductive JN(vs:List V)(H:Hp)(Q:VK)(E:XK):Prop
 |mk (i:Int):vs=[.int i]->2<=i->i<=16->Q .non H->JN vs H Q E
def WP:du ["pages"] ["pages"] (b_ (top 52)):=by ext
def Nu(F:ir K "need_pages" "need_pages" (top 52) f b)(c:Gx mg):dm P w K mg base dU 1 f b ["pages"] JN:=by refine F.ok WP (by ext) λd A a s H vs Q E j h=>?_;obtain⟨i,rfl,l,m,q⟩:=h;obtain⟨n,e⟩:=c.a;obtain⟨o,g⟩:=c.b;refine⟨_,(d8 (eX (jm (pR jN jN (iB (v:=.int 2) rfl e ⟨_,rfl⟩) (pv 0) (iB (v:=.int 16) rfl g ⟨_,rfl⟩))) (d8 gj) dI)),?_⟩;refine wy.iff (wy.not (wy.test (nZ.chain nZ.con (nZ.var rfl) nZ.con Bo.i0 Bo.i0))) (jT (λh=>?_) (λh=>q));simp at h;omega
inductive Ly(vs:List V)(H:Hp)(Q:VK)(E:XK):Prop
 |mk (i:Int):vs=[.int i]->5<=i->i<=12->Q .non H->Ly vs H Q E
def YH:du ["room"] ["room"] (b_ (top 53)):=by ext
def MN(F:ir K "need_room" "need_room" (top 53) f b)(c:Gx mg):dm P w K mg base dU 1 f b ["room"] Ly:=by refine F.ok YH (by ext) λd A a s H vs Q E j h=>?_;obtain⟨i,rfl,l,m,q⟩:=h;obtain⟨n,e⟩:=c.c;obtain⟨o,g⟩:=c.d;refine⟨_,(d8 (eX (jm (pR jN jN (iB (v:=.int 5) rfl e ⟨_,rfl⟩) (pv 0) (iB (v:=.int 12) rfl g ⟨_,rfl⟩))) (d8 gj) dI)),?_⟩;refine wy.iff (wy.not (wy.test (nZ.chain nZ.con (nZ.var rfl) nZ.con Bo.i0 Bo.i0))) (jT (λh=>?_) (λh=>q));simp at h;omega
inductive JS(Z:LC)(vs:List V)(H:Hp)(Q:VK)(E:XK):Prop
 |mk (o dx:Zl) (pages room:Int) (over:Bool):vs=[.ref o,.int pages,.int room,.bl over]->H o=some (.ins Z.l dx [])->2<=pages->pages<=16->5<=room->room<=12->(∀k H',k.a=o->k.cs=[]->eE Z H' k (m9 pages room over)->(∀b u,H b=some u->b≠o->H' b=some u)->(∀l∈k.ls,H l=none)->(∀s∈k.ps,H s.p=none)->Q .non H')->JS Z vs H Q E
def X8:du ["self","pages","room","over"] ["self","pages","room","over"] (b_ (lM 0)):=by ext
def TY(F:ir K "__init__" "Lane.__init__" (lM 0) f fd)(L:LZ K mg Z)(TL:Gx mg)(DN:gq K mg "need_pages" (top 52) ["pages"] fN N)(DR:gq K mg "need_room" (top 53) ["room"] fR O)(MkP:Mk K Z.p fI)(FI:ir K "__init__" "Page.__init__" (gM 0) fI D)(bI:Binds K D ["self"] []):dm P w K mg base dU 3 f fd ["self","pages","room","over"] (JS Z):=by
 have GN:dm P w K mg base dU 1 fN N ["pages"] JN:=Nu DN.F TL;have GR:dm P w K mg base dU 1 fR O ["room"] Ly:=MN DR.F TL;have GI:dm P w K mg base dU 1 fI D ["self"] (Ji Z):=Gn FI L;refine F.ok X8 (by ext) λaa A ab s H vs Q E hr h=>?_;obtain⟨o,c,a,d,p,rfl,ho,p1,p2,r1,r2,q⟩:=h;have I:eZ 1 _:=hr.mono (by decide);refine⟨_,(bK (fc (iJ DN GN I (aK (pv 1) cZ))) (bK (fc (iJ DR GR I (aK (pv 2) cZ))) (bK (dY (pv 0) (pv 1) rfl) (bK (dY (pv 0) (pv 2) rfl) (bK (dY (pv 0) (pv 3) rfl) (bK (dY (pv 0) (gC (aK (rD (E:=E0) MkP GI hr rfl L.pmg bI .nil dR) cZ)) rfl) (bK (dY (pv 0) lD rfl) (bK (dY (pv 0) dh rfl) (bK (dY (pv 0) l_ rfl) (bK (dY (pv 0) dh rfl) (bK (dY (pv 0) dh rfl) (bK (dY (pv 0) dh rfl) (bK (dY (pv 0) dh rfl) (d8 (dY (pv 0) dh rfl))))))))))))))),?_⟩;refine⟨_,rfl,a,rfl,p1,p2,?_⟩;refine⟨_,rfl,d,rfl,r1,r2,?_⟩;refine⟨_,rfl,_,rfl,o,Z.l,c,[],rfl,ho,L.lc,L.l1,(show 0<1000 by decide),?_⟩;refine⟨_,rfl,_,rfl,o,Z.l,c,_,rfl,a_,L.lc,L.l2,(show 1<1000 by decide),?_⟩;refine⟨_,rfl,_,rfl,o,Z.l,c,_,rfl,a_,L.lc,L.l3,(show 2<1000 by decide),?_⟩;generalize C:upd (upd (upd H o (.ins Z.l c (gJ "most" (.int a) []))) o (.ins Z.l c (gJ "room" (.int d) (gJ "most" (.int a) [])))) o (.ins Z.l c (gJ "over" (.bl p) (gJ "room" (.int d) (gJ "most" (.int a) []))))=H3;have S:∀b,b≠o->H3 b=H b:=λb g=>by rw[<-C,c7 g,c7 g,c7 g]
 have T:H3 o=some (.ins Z.l c [("most",.int a),("room",.int d),("over",.bl p)]):=by rw[<-C,a_];rfl
 clear C;refineλx y R ac ad=>⟨x,y,rfl,a_,λl G i ae r kp=>⟨rfl,?_⟩⟩;have U:di H3 G:=gY R ac kp;have B:H3 l=none:=by
  have W:l≠x:=λz=>by rw[z,a_]at i;cases i
  have X:l≠y:=λz=>by rw[z,c7 ad,a_]at i;cases i
  rw[c7 W,c7 X]at i;exact i
 refine⟨(by ext),λn j=>?_⟩;have J:di G (upd G n (.lst [.ref x])):=di.new j;have h5:(upd G n (.lst [.ref x])) n=some (.lst [.ref x]):=a_;generalize upd G n (.lst [.ref x])=H5 at J h5|-;have e5:=J _ _ (U _ _ T);have W:x≠o:=λz=>by rw[z,T]at R;cases R
 have X:l≠o:=λz=>by rw[z,T]at B;cases B
 have n3:n≠o:=λz=>by rw[z,U _ _ T]at j;cases j
 have af:n≠l:=λz=>by rw[z,r]at j;cases j
 have ag:∀v:Hp,v o=some (.ins Z.l c (Ew n (m9 a d p)))->(∀b,b≠o->v b=H5 b)->Q .non v:=by
  intro v eF Y;refine q ⟨o,n,[⟨x,l,[]⟩]⟩ v rfl rfl ⟨⟨c,eF⟩,?_,.cons ⟨⟨y,?_⟩,?_,.nil⟩ .nil,?_,?_,?_⟩ ?_ ?_ (λs m=>by cases aam.mp m;show H x=none;rw[<-S _ W];exact R)
  ·show v n=some (.lst [.ref x]);rw[Y _ n3];exact h5
  ·show v x=_;rw[Y _ W];exact J _ _ ae
  ·show v l=some (.lst []);rw[Y _ X];exact J _ _ r
  ·simp
  ·show[n,l].Nodup;simp[af]
  ·show([]:YI).Nodup;simp
  ·intro b u e g;rw[Y _ g];refine J _ _ (U _ _ ?_);rw[S _ g];exact e
  ·intro b M;have M:b∈[n,l]:=M;rcases aai.mp M with rfl|M
   ·rw[<-S _ n3];exact e_ U j
   ·cases aam.mp M;rw[<-S _ X];exact B
 refine⟨_,rfl,o,Z.l,c,_,rfl,e5,L.lc,L.l4,(show 3<1000 by decide),?_⟩;refine⟨_,rfl,o,Z.l,c,_,rfl,a_,L.lc,L.l5,(show 4<1000 by decide),?_⟩;refine⟨_,rfl,o,Z.l,c,_,rfl,a_,L.lc,L.l6,(show 5<1000 by decide),?_⟩;refine⟨_,rfl,o,Z.l,c,_,rfl,a_,L.lc,L.l7,(show 6<1000 by decide),?_⟩;refine⟨_,rfl,o,Z.l,c,_,rfl,a_,L.lc,L.l8,(show 7<1000 by decide),?_⟩;refine⟨_,rfl,o,Z.l,c,_,rfl,a_,L.lc,L.l9,(show 8<1000 by decide),?_⟩;refine⟨_,rfl,o,Z.l,c,_,rfl,a_,L.lc,L.l10,(show 9<1000 by decide),?_⟩;refine⟨_,rfl,o,Z.l,c,_,rfl,a_,L.lc,L.l11,(show 10<1000 by decide),?_⟩;refine⟨_,rfl,o,Z.l,c,_,rfl,a_,L.lc,L.l12,(show 11<1000 by decide),?_⟩;exact ag _ a_ (λb g=>by rw[c7 g,c7 g,c7 g,c7 g,c7 g,c7 g,c7 g,c7 g,c7 g])
end
noncomputable def ug(f:ji)(z:Int):Prop:=f.2.1<=z/\z<=f.2.2
section
variable{P:ZE}{w:ZH}{K:Zs}{mg:Y1}{base:ZN}{Z:LC}
inductive Mz(K:Zs)(vs:List V)(H:Hp)(Q:VK)(E:XK):Prop
 |mk (p dc:Zl) (x:V) (f:ji):vs=[.ref p,x]->Dr H p dc->jG H x f->nU f->(∀(z:Int)(H':Hp),ug f z->Dr H' p dc->ii p H H'->Q (.int z) H')->Mz K vs H Q E
def Cr:du ["_law_d","_law_field","_law_title","_law_low","_law_high"] ["_law_d","_law_field"] (b_ (top 118)):=by ext
def Pr(F:ir K "_law_value" "_law_value" (top 118) f C)(T:Txt K mg)(j:gq K mg "_law_pick" (top 113) ["_law_d","_law_many"] v a)(G:gq K mg "_law_of" (top 114) ["_law_d","_law_things"] B c):
 dm P w K mg base dU 3 f C ["_law_d","_law_field"] (Mz K):=by
 have O:dm P w K mg base dU 1 v a ["_law_d","_law_many"] jK:=jH j.F T;have R:dm P w K mg base dU 2 B c ["_law_d","_law_things"] (xr K):=vq G.F T j;refine F.ok Cr (by ext) λd A e s H vs Q E l h=>?_;obtain⟨p,o,x,S,rfl,D,⟨b,rfl,U⟩,i,k⟩:=h;have g:eZ 1 _:=l.mono (by decide);refine⟨_,(bK (lY (pv 1) (iy rfl (dJ (jP 2 Cr.nd) (dJ (jP 3 Cr.nd) (dJ (jP 4 Cr.nd) gP))))) (d8 (dw (iJ G R l (aK (pv 0) (aK (gC (aK (pv 3) (aK (pv 4) (aK (fX iI (pv 3) (iJ j O g (aK (pv 0) (aK (fX iI (fX jR (pv 4) (pv 3)) dh) cZ)))) cZ)))) cZ)))))),?_⟩;have f1:=i.lo;have f2:=i.le;have f3:=i.hi;refine⟨_,rfl,b,_,rfl,gf.of U,rfl,_,_,rfl,_,_,rfl,_,_,rfl,rfl,?_⟩;refine⟨_,rfl,_,rfl,_,rfl,_,rfl,_,rfl,_,rfl,_,rfl,_,_,rfl,rfl,_,_,rfl,rfl,p,o,_,rfl,D,by omega,by omega,λr X Y r1 I J=>⟨_,_,rfl,rfl,(by ext),λq m=>?_⟩⟩;refine⟨p,o,q,_,rfl,I.new m,fj.of a_,by simp,by simp,λy L n M N=>?_⟩;obtain⟨z,rfl,W⟩:∃z:Int,y=.int z/\ug S z:=by
  simp only[aai,aa4,or_false]at n;unfold ug;rcases n with rfl|rfl|rfl
  ·exact⟨_,rfl,by omega,by omega⟩
  ·exact⟨_,rfl,by omega,by omega⟩
  ·exact⟨_,rfl,by omega,by omega⟩
 exact k z L W M ((J.trans (ii.new m)).trans N)
noncomputable abbrev Zu:List Str:=["self","values","at","name","low","high","value"]
def Eo:du Zu ["self","values"] (b_ (kM 4)):=by ext
inductive Ay(C:Zl)(vs:List V)(H:Hp)(Q:VK)(E:XK):Prop
 |mk (o a b:Zl) (n:Str) (fs:List ji) (zs:List Int):vs=[.ref o,.ref b]->gZ C H o n a fs->H b=some (.tup (zs.map V.int))->Pd ug fs zs->(∀H',di H H'->Q .non H')->Ay C vs H Q E
def Kc(F:ir K "need" "Kind.need" (kM 4) f fd)(T:Txt K mg)(W:mg "enumerate"=none)(X:mg "zip"=none)(v:KCls K mg C):
 dm P w K mg base dU 1 f fd ["self","values"] (Ay C):=by
 refine F.ok Eo (by ext) λaa A B s H vs Q E hr h=>?_;obtain⟨o,a,b,n,fs,N,rfl,⟨⟨dx,ho⟩,j,O,pf⟩,R,fz,k⟩:=h;refine⟨_,(bK (j6 aaO rfl (FZ rfl W rfl X (aK (dq (pv 0) rfl) (aK (pv 1) cZ))) (iy rfl (dJ (jP 2 Eo.nd) (dJ (iy rfl (dJ (iy rfl (dJ (jP 3 Eo.nd) (dJ (jP 4 Eo.nd) (dJ (jP 5 Eo.nd) gP)))) (dJ (jP 6 Eo.nd) gP))) gP))) (d8 (eX (jm (pR jN jN (pv 4) (pv 6) (pv 5))) (d8 gj) dI))) (d8 (eX (dM uw (dD dO (by rfl) T.len gD (aK (pv 1) cZ)) (dD dO (by rfl) T.len gD (aK (dq (pv 0) rfl) cZ)) (dN _)) (d8 gj) dI))),?_⟩;have pl:=aaV pf;have ab:(N.map V.int).length=N.length:=aad ..;have fl:=fz.len;refine⟨_,rfl,o,C,dx,_,_,rfl,ho,v.cl,v.nF,kE n a,_,rfl,a,b,rfl,⟨j,gf.of O⟩,⟨_,gf.of R⟩,?_⟩;refine Eh (K:=K) (a1:=a) (a2:=b) (xs:=j) (ys:=N.map V.int) (λi c Y=>(∃D G I J L,c=[some (.ref o),some (.ref b),D,G,I,J,L])/\di H Y) ⟨⟨none,none,none,none,none,rfl⟩,di.refl _⟩ (λi c Y _ z=>⟨gf.of (z.2 _ _ O),gf.of (z.2 _ _ R)⟩) ?_ ?_
 ·rintro i x y c r q p hx hy⟨⟨D,G,I,J,L,rfl⟩,d⟩hq hp;obtain⟨⟨m,lo,hi⟩,S,l,rfl,U⟩:=jA pf hx;rw[aao]at hy;obtain⟨z,hz,rfl⟩:=abC.mp hy;obtain⟨z',e,g⟩:=fz.at S;rw[hz]at e;cases e;have s2:di r (upd (upd r q (.tup [.ref l,.int z])) p (.tup [.int i,.ref q])):=(di.new hq).trans (di.new hp);have M:(upd (upd r q (.tup [.ref l,.int z])) p (.tup [.int i,.ref q])) q=some (.tup [.ref l,.int z]):=(di.new hp) _ _ a_;refine⟨p,_,rfl,gf.of a_,rfl,_,_,rfl,_,_,rfl,q,_,rfl,gf.of M,rfl,_,_,rfl,l,_,rfl,gf.of (s2 _ _ (d _ _ U)),rfl,_,_,rfl,_,_,rfl,_,_,rfl,rfl,_,_,rfl,rfl,rfl,?_⟩;dsimp only[eN];refine wy.iff (wy.not (wy.test (nZ.chain (nZ.var rfl) (nZ.var rfl) (nZ.var rfl) Bo.i0 Bo.i0))) ?_;refine jT (λh=>?_) (λh=>?_)
  ·exfalso;have g:lo<=z/\z<=hi:=g;simp[g.1,g.2]at h
  ·exact⟨⟨_,_,_,_,_,rfl⟩,d.trans s2⟩
 ·rintro c r⟨⟨D,G,I,J,L,rfl⟩,d⟩;refine⟨_,rfl,b,_,rfl,.inr (gf.of (d _ _ R)),_,rfl,o,C,dx,_,_,rfl,d _ _ ho,v.cl,v.nF,kE n a,a,j,rfl,.inr (gf.of (d _ _ O)),rfl,_,rfl,gW (by simp[pl,fl]) (k _ d)⟩
end
noncomputable def jd(tk:Int)(a:List Int)(c:Cl):Cl:=if c.tk=tk then{c with vs:=a}else c
noncomputable def lR(tk:Int)(a:List Int)(n:Ln):Ln:={n with pg:=n.pg.map λp=>{p with cs:=p.cs.map (jd tk a)}}
section
variable{P:ZE}{w:ZH}{K:Zs}{mg:Y1}{base:ZN}{Z:LC}
def eE.setF(x:Z.Ok)(d:eE Z H k n)(S:c∈k.cs)(T:iU Z H c m)(B:m.tk=tk)(nd:((iu n).map (·.tk)).Nodup)(e:H c=some (.ins Z.c i (xY m kk t)))(U:H b=some (.tup (j.map V.int))):
 eE Z (upd H c (.ins Z.c i (xY m kk b))) k (lR tk j n):=by
 have kt:Kt Z H (upd H c (.ins Z.c i (xY m kk b))):=Kt.ins e x.kc;obtain⟨dl,f⟩:=d.ob;obtain⟨I,J,L⟩:=d.at_c S;have v:I.tk=tk:=(Ny T J).symm.trans B;refine⟨⟨dl,?_⟩,?_,?_,d.n1,d.n2,d.n3⟩
 ·rw[c7 (λz=>by
   rw[z,e]at f;injection f with f
   injection f with f
   exact x.cl f)];exact f
 ·rw[c7 (λz=>by have:=d.ls;rw[z,e]at this;cases this)];exact d.ls
 ·have one:∀(q:Zl)(y:Cl),iU Z H q y->(q,y)∈k.cs.zip (iu n)->iU Z (upd H c (.ins Z.c i (xY m kk b))) q (jd tk j y):=by
   intro q y r l;by_cases z:q=c
   ·subst z;obtain⟨W,M,N,X,O,Q,Y⟩:=r.ex;have a:=O;rw[e]at a;injection a with a
    injection a with _ e2 e3
    have A:m.tk=y.tk:=by injection e3 with e3;injection e3 with _ e3;injection e3
    have D:m.tm=y.tm:=by injection e3 with _ e3;injection e3 with e3 _;injection e3 with _ e3;injection e3
    have E:kk=M:=by injection e3 with _ e3;injection e3 with _ e3;injection e3 with e3 _;injection e3 with _ e3;injection e3
    have F:m.gv=y.gv:=by injection e3 with _ e3;injection e3 with _ e3;injection e3 with _ e3;injection e3 with _ e3;injection e3 with e3 _;injection e3 with _ e3;injection e3
    subst E;have G:jd tk j y={y with vs:=j}:=by unfold jd;rw[aac (by rw[<-A];exact B)]
    rw[G];refine⟨i,kk,N,b,?_,Q.kt kt,kt.tk _ _ U⟩;rw[a_];show some (HO.ins Z.c i [("ticket",.int m.tk),("time",.int m.tm),("form",.ref kk),("filled",.ref b),("given",.bl m.gv)])=some (HO.ins Z.c i [("ticket",.int y.tk),("time",.int y.tm),("form",.ref kk),("filled",.ref b),("given",.bl y.gv)]);rw[A,D,F]
   ·have:y.tk≠tk:=λh=>z (zZ nd l L (h.trans v.symm));unfold jd;rw[aab this];exact r.upd kt z
  refine Pd.mapR (λs p⟨r,l⟩=>?_) d.pg.both;obtain⟨R,g⟩:=r.ob;refine⟨⟨R,?_⟩,?_,?_⟩
  ·rw[c7 (λz=>by
    rw[z,e]at g;injection g with g
    injection g with g
    exact x.cp g)];exact g
  ·rw[c7 (λz=>by have:=r.ls;rw[z,e]at this;cases this)];exact r.ls
  ·refine Pd.mapR (λb y⟨C,o⟩=>one b y C ?_) r.cs.both;rw[d.zips];exact aaM.mpr ⟨(s,p),l,o⟩
inductive Qm(Z:LC)(vs:List V)(H:Hp)(Q:VK)(E:XK):Prop
 |mk (k:LA) (n:Ln) (tk:Int) (b:Zl) (zs:List Int):vs=[.ref k.a,.int tk,.ref b]->eE Z H k n->k.cs.length<=900->n.pg.length<=900->((iu n).map (·.tk)).Nodup->(∃m∈wait n,m.tk=tk)->H b=some (.tup (zs.map V.int))->((∀m∈wait n,m.tk=tk->Pd ug m.fi zs))->(∀H',eE Z H' k (lR tk zs n)->Mv Z k H k H'->Q .non H')->Qm Z vs H Q E
def V8:du ["self","ticket","values","claim"] ["self","ticket","values"] (b_ (lM 9)):=by ext
def V1(F:ir K "fill" "Lane.fill" (lM 9) f W)(T:Txt K mg)(z:mg "enumerate"=none)(B:mg "zip"=none)(L:LZ K mg Z)(X:MD K Z.l "waiting_with" "Lane.waiting_with" (lM 7) ["self","ticket"] S j)(GW:dm P w K mg base dU 3 S j ["self","ticket"] (Gb Z))(C:MD K Z.k "need" "Kind.need" (kM 4) ["self","values"] U l):dm P w K mg base dU 4 f W ["self","ticket","values"] (Qm Z):=by have GN:dm P w K mg base dU 1 U l ["self","values"] (Ay Z.k):=Kc C.F T z B L.kc;refine F.ok V8 (by ext) λp A r s H vs Q E D h=>?_;obtain⟨k,n,tk,b,zs,rfl,y,hc,hl,nd,wl,M,fz,q⟩:=h;have v:eZ 1 _:=D.mono (by decide);refine⟨_,(bK (jj 3 V8.nd (eO (E:=E0) (pv 0) L.lc X.M GW D X.b .nil dR (aK (pv 1) cZ))) (bK (fc (eO (E:=E0) (dq (pv 3) rfl) L.kc.cl C.M GN v C.b .nil dR (aK (pv 2) cZ))) (d8 (dY (pv 3) (jJ jn (by rfl) T.tuple jE (aK (pv 2) cZ)) rfl)))),?_⟩;obtain⟨dx,e⟩:=y.ob;refine⟨_,rfl,k.a,dx,_,rfl,e,rfl,_,rfl,k,n,tk,rfl,y,hc,hl,wl,λc m H1 o G I Y J=>?_⟩;obtain⟨N,kk,a,t,O,R,et⟩:=id I.ex;obtain⟨⟨dk,ek⟩,_⟩:=id R;refine⟨_,rfl,c,Z.c,N,_,_,rfl,O,L.cc,L.c3,rfl,kk,dk,_,rfl,ek,sY m.nm a (by ext) (by ext),_,rfl,kk,a,b,m.nm,m.fi,zs,rfl,R,o _ _ M,fz m Y J,λH2 g=>?_⟩;have x:=(y.same o).same g;have d:=g _ _ O;have i:=g _ _ (o _ _ M);refine⟨_,rfl,b,_,rfl,.inr ⟨gf.of i,?_⟩⟩;refine⟨_,rfl,c,Z.c,N,_,rfl,d,L.cc,L.c4,(show 5<1000 by decide),?_⟩;exact q _ (x.setF L.ok G (I.same g) J nd d i) ((Mv.same (Z:=Z) (k:=k) (o.trans g)).trans (Mv.ins d (.inl rfl) (LA.c_own G)))
inductive Ro(Z:LC)(vs:List V)(H:Hp)(Q:VK)(E:XK):Prop
 |mk (k:LA) (n:Ln):vs=[.ref k.a]->eE Z H k n->(∀t H',di H H'->H' t=some (.tup [.int n.giv,.int n.thr,.int n.los,.int n.mis])->Q (.ref t) H')->Ro Z vs H Q E
def Yn:du ["self"] ["self"] (b_ (lM 19)):=by ext
def Uq(F:ir K "counts" "Lane.counts" (lM 19) f c)(L:LZ K mg Z):dm P w K mg base dU 1 f c ["self"] (Ro Z):=by refine F.ok Yn (by ext) λd A b s H vs Q E j h=>?_;obtain⟨k,n,rfl,i,q⟩:=h;refine⟨_,(d8 (dw (gw (aK (dq (pv 0) rfl) (aK (dq (pv 0) rfl) (aK (dq (pv 0) rfl) (aK (dq (pv 0) rfl) cZ))))))),?_⟩;obtain⟨a,e⟩:=i.ob;exact⟨_,rfl,k.a,Z.l,a,_,_,rfl,e,L.lc,L.l9,rfl,_,rfl,k.a,Z.l,a,_,_,rfl,e,L.lc,L.l10,rfl,_,rfl,k.a,Z.l,a,_,_,rfl,e,L.lc,L.l11,rfl,_,rfl,k.a,Z.l,a,_,_,rfl,e,L.lc,L.l12,rfl,(by ext),λt g=>q t _ (di.new g) a_⟩
end
noncomputable def qu(nm:Str)(fs:List ji)(a:List Int)(f:Str)(r:List PyData):Bool:=
 if f="all"then true else match r with
 |[.str x]=>decide (nm=x)
 |[.str x,.int i]=>if x∈fs.map (·.1)then (if f="less"then decide (a.getD ((fs.map (·.1)).idxOf x) 0<i)else decide (a.getD ((fs.map (·.1)).idxOf x) 0=i))else false
 |_=>false
noncomputable def ie(nm:Str)(fs:List ji)(a:List Int):Nat->Str->List PyData->Bool
 |0,_,_=>false
 | n+1,f,r=>
   if f="not"then(match r with
    |[.tuple (.str g::q)]=>!ie nm fs a n g q
    |_=>false)
   else if f="and"then(match r with
    |[.tuple (.str g::q),.tuple (.str h::p)]=>ie nm fs a n g q&&ie nm fs a n h p
    |_=>false)
   else if f="or"then(match r with
    |[.tuple (.str g::q),.tuple (.str h::p)]=>ie nm fs a n g q||ie nm fs a n h p
    |_=>false)
   else qu nm fs a f r
def Lp(n:Str)(a:Zl):(kf n a).lookup ("place_of":Str)=none/\(kf n a).lookup ("need":Str)=none:=⟨sY n a (by ext) (by ext),sY n a (by ext) (by ext)⟩
section
variable{P:ZE}{w:ZH}{K:Zs}{mg:Y1}{base:ZN}
inductive Kg(K:Zs)(C:Zl)(vs:List V)(H:Hp)(Q:VK)(E:XK):Prop
 |mk (q o a b:Zl) (f nm:Str) (r:List PyData) (fs:List ji) (zs:List Int):vs=[.ref q,.ref o,.ref b]->Rep K H (.ref q) (.tuple (.str f::r))->rE f r->gZ C H o nm a fs->fs.length<=4->H b=some (.tup (zs.map V.int))->zs.length=fs.length->(∀H',di H H'->Q (.bl (qu nm fs zs f r)) H')->Kg K C vs H Q E
noncomputable abbrev NPl:List Str:=["leaf","kind","values","form","place"]
def Gw:du NPl ["leaf","kind","values"] (b_ (top 76)):=by ext
theorem Sq(F:ir K "passes_leaf" "passes_leaf" (top 76) f X)(N:KCls K mg C)(Y:MD K C "place_of" "Kind.place_of" (kM 3) ["self","field"] W D)(GM:dm P w K mg base dU 1 W D ["self","field"] (ww C)):dm P w K mg base dU 2 f X ["leaf","kind","values"] (Kg K C):=by
 refine F.ok Gw (by ext) λZ A I s H vs Q E hr h=>?_;obtain ⟨q,o,a,b,f,nm,r,fs,d,rfl,rq,lf,S,fl,hb,zl,k⟩:=h;refine ⟨_,(bK (jj 3 Gw.nd (dZ eU (pv 0) dh)) (bK (eX (dM gG (pv 3) dC (dN _)) (d8 (dw lD)) dI) (bK (eX (dM gG (pv 3) dC (dN _)) (d8 (dw (iz gG (dq (pv 1) rfl) (dZ eU (pv 0) dh) (dN _)))) dI) (bK (jj 4 Gw.nd (eO (E:=E0) (pv 1) N.cl Y.M GM hr Y.b .nil dR (aK (dZ eU (pv 0) dh) cZ))) (bK (eX (dM wX (pv 4) l_ (dN _)) (d8 (dw lD)) dI) (d8 (dw (kO (dM gG (pv 3) dC (dN _)) (iz uz (dZ eU (pv 2) (pv 4)) (dZ eU (pv 0) dh) (dN _)) (iz gG (dZ eU (pv 2) (pv 4)) (dZ eU (pv 0) dh) (dN _)))))))))),?_⟩
 try dsimp only [jr]
 have L:=S;obtain ⟨⟨T,U⟩,_⟩:=L;cases rq with
 |@tup _ M _ m n=>
 cases lf with
 | all=>
   obtain ⟨l,rfl⟩:∃l,M=[l]:=by cases n with|cons r1 r2=>cases r2;exact ⟨_,rfl⟩
   cases n with|cons r1 r2=>
   cases r1;exact ⟨_,rfl,q,_,_,_,rfl,rfl,m,dz (j:=0) rfl,_,rfl,rfl,_,rfl,j5 (by ext) (k _ (di.refl _))⟩
 | @is x hx=>
   obtain ⟨l,v,rfl⟩:∃l v,M=[l,v]:=by cases n with|cons r1 r2=>cases r2 with|cons r2 r3=>cases r3;exact ⟨_,_,rfl⟩
   cases n with|cons r1 r2=>
   cases r2 with|cons r2 r3=>
   cases r1;cases r2;refine ⟨_,rfl,q,_,_,_,rfl,rfl,m,dz (j:=0) rfl,_,rfl,rfl,_,rfl,gW (by ext) ⟨_,rfl,rfl,_,rfl,j5 (by ext) ?_⟩⟩;refine ⟨_,rfl,o,C,T,_,_,rfl,U,N.cl,N.nN,vQ nm a,_,rfl,q,_,_,_,rfl,rfl,m,dz (j:=1) rfl,rfl,?_⟩;have e:decide (V.str nm=V.str x)=qu nm fs d "is" [.str x]:=by unfold qu;rw [aab (by ext)];simp
   show Q (.bl (decide (V.str nm=V.str x))) H;rw [e];exact k _ (di.refl _)
 | @num f' x i G hx hi=>
   obtain ⟨l,v,O,rfl⟩:∃l v O,M=[l,v,O]:=by cases n with|cons r1 r2=>cases r2 with|cons r2 r3=>cases r3 with|cons r3 r4=>cases r4;exact ⟨_,_,_,rfl⟩
   cases n with|cons r1 r2=>
   cases r2 with|cons r2 r3=>
   cases r3 with|cons r3 r4=>
   cases r1;cases r2;cases r3;have n1:decide (V.str f=V.str "all")=false:=by rcases G with rfl|rfl<;>decide +kernel
   have n2:decide (V.str f=V.str "is")=false:=by rcases G with rfl|rfl<;>decide +kernel
   have n3:¬f="all":=by rcases G with rfl|rfl<;>decide +kernel
   refine ⟨_,rfl,q,_,_,_,rfl,rfl,m,dz (j:=0) rfl,_,rfl,rfl,_,rfl,gW n1 ⟨_,rfl,rfl,_,rfl,gW n2 ?_⟩⟩;refine ⟨_,rfl,o,T,_,rfl,U,(Lp nm a).1,_,rfl,q,_,_,_,rfl,rfl,m,dz (j:=1) rfl,o,a,nm,x,fs,rfl,S,fl,λH1 p=>?_⟩;have y:=p.tup m;have z:=p _ _ hb;unfold qu at k;rw [aab n3]at k;unfold vL;by_cases c:x∈fs.map (·.1)
   ·rw [aac c];have k:∀g,di H g->Q (.bl (if f="less"then decide (d.getD ((fs.map (·.1)).idxOf x) 0<i)else decide (d.getD ((fs.map (·.1)).idxOf x) 0=i))) g:=λg J=>by have:=k g J;dsimp only at this;rw [aac c]at this;exact this
    have R:(fs.map (·.1)).idxOf x<d.length:=by have:=List.idxOf_lt_length_iff.mpr c;rw [aad]at this;omega
    have eg:d.getD ((fs.map (·.1)).idxOf x) 0=d[(fs.map (·.1)).idxOf x]:=by simp [acl,R]
    rw [eg]at k;refine ⟨_,rfl,rfl,_,rfl,gW (by simp) ?_⟩;have B:qF (d.map V.int) (((fs.map (·.1)).idxOf x:Nat):Int)=some (.int d[(fs.map (·.1)).idxOf x]):=dz (by rw [aao,aaz R];rfl);refine ⟨_,rfl,rfl,_,rfl,?_⟩;rcases G with rfl|rfl
    ·refine j5 (by ext) ?_;have:=k _ p;rw [aac rfl]at this;exact ⟨_,rfl,_,rfl,b,_,_,_,rfl,rfl,gf.of z,B,_,rfl,q,_,_,_,rfl,rfl,y,dz (j:=2) rfl,_,_,rfl,rfl,this⟩
    ·refine gW (by ext) ?_;have:=k _ p;rw [aab (by ext)]at this;refine ⟨_,rfl,_,rfl,b,_,_,_,rfl,rfl,gf.of z,B,_,rfl,q,_,_,_,rfl,rfl,y,dz (j:=2) rfl,rfl,?_⟩;have e:decide (V.int d[(fs.map (·.1)).idxOf x]=V.int i)=decide (d[(fs.map (·.1)).idxOf x]=i):=by simp
     rw [e];exact this
   ·rw [aab c];have k:∀g,di H g->Q (.bl false) g:=λg J=>by have:=k g J;dsimp only at this;rw [aab c]at this;exact this
    exact ⟨_,rfl,rfl,_,rfl,j5 (by ext) (k _ p)⟩
end
noncomputable def n6(nm:Str)(fs:List ji)(a:List Int):PyData->Bool
 |.tuple (.str f::r)=>ie nm fs a 5 f r
 |_=>false
def ux(N:Node n f r)(tr:∀d∈r,TD d):(f="not"/\∃g q,r=[.tuple (.str g::q)])\/((f="and"\/f="or")/\∃g q h p,r=[.tuple (.str g::q),.tuple (.str h::p)]):=by
 have ar:=N.ar;unfold arity at ar;by_cases a:f="not"
 ·rw[aac a]at ar;injection ar with ar
  left;refine⟨a,?_⟩
  match r,ar,N,tr with
  | [x],_,N,tr=>obtain⟨g,q,rfl⟩:=ju (tr x (by simp)) (N.sh x (by simp));exact⟨g,q,rfl⟩
 ·rw[aab a]at ar;right;have two:∀{r:List PyData},2=r.length->(∀d∈r,TD d)->(∀d∈r,gK d=true)->∃g q h p,r=[.tuple (.str g::q),.tuple (.str h::p)]:=by
   intro r e t s
   match r,e,t,s with
   | [x,y],_,t,s=>obtain⟨g,q,rfl⟩:=ju (t x (by simp)) (s x (by simp));obtain⟨h,p,rfl⟩:=ju (t y (by simp)) (s y (by simp));exact⟨g,q,h,p,rfl⟩
  by_cases b:f="and"
  ·rw[aac b]at ar;injection ar with ar
   exact⟨.inl b,two ar tr N.sh⟩
  ·rw[aab b]at ar;by_cases c:f="or"
   ·rw[aac c]at ar;injection ar with ar
    exact⟨.inr c,two ar tr N.sh⟩
   ·rw[aab c]at ar;cases ar
def ur(h:arity f=none):¬f="not"/\¬f="and"/\¬f="or":=by
 unfold arity at h;refine⟨λz=>?_,λz=>?_,λz=>?_⟩
 ·rw[aac z]at h;cases h
 ·by_cases a:f="not"
  ·rw[aac a]at h;cases h
  ·rw[aab a,aac z]at h;cases h
 ·by_cases a:f="not"
  ·rw[aac a]at h;cases h
  ·rw[aab a]at h;by_cases b:f="and"
   ·rw[aac b]at h;cases h
   ·rw[aab b,aac z]at h;cases h
def lU(h:¬f=g):decide (V.str f=V.str g)=false:=by rw [decide_eq_false_iff_not,V.str.injEq];exact h
section
variable{P:ZE}{w:ZH}{K:Zs}{mg:Y1}{base:ZN}
structure QD(K:Zs)(C:Zl)(n:Nat)(H:Hp)(q o a b:Zl)(f nm:Str)(r:List PyData)(fs:List ji)(zs:List Int):Prop where
 rq:Rep K H (.ref q) (.tuple (.str f::r))
 td:TD (.tuple (.str f::r))
 sh:gK (.tuple (.str f::r))=true
 de:iD (.tuple (.str f::r))<=n
 ka:gZ C H o nm a fs
 fl:fs.length<=4
 hb:H b=some (.tup (zs.map V.int))
 zl:zs.length=fs.length
inductive Mu(K:Zs)(C:Zl)(n:Nat)(vs:List V)(H:Hp)(Q:VK)(E:XK):Prop
 |mk (q o a b:Zl) (f nm:Str) (r:List PyData) (fs:List ji) (zs:List Int):vs=[.ref q,.ref o,.ref b]->QD K C n H q o a b f nm r fs zs->(∀H',di H H'->Q (.bl (ie nm fs zs n f r)) H')->Mu K C n vs H Q E
noncomputable abbrev Zv:List Str:=["test","kind","values","form"]
def Tq:du Zv ["test","kind","values"] (b_ (top 75)):=by ext
theorem Vc(p:gq K mg "passes" (top 75) ["test","kind","values"] f T)(DL:gq K mg "passes_leaf" (top 76) ["leaf","kind","values"] fL y)(GL:dm P w K mg base dU 2 fL y ["leaf","kind","values"] (Kg K C))(n:Nat):dm P w K mg base dU (n+2) f T ["test","kind","values"] (Mu K C n):=by
 refine Nat.rec (motive:=λn=>dm P w K mg base dU (n+2) f T ["test","kind","values"] (Mu K C n)) ⟨λ_ _ _ _ h=>?_,λ_ _ _ _ _ _ _ _ _ _ _ _ _ h=>?_⟩ (λn x=>?_) n
 ·obtain⟨q,o,a,b,f,nm,r,fs,c,_,h,_⟩:=h;exact absurd (aag (lC _) h.de) (by decide)
 ·obtain⟨q,o,a,b,f,nm,r,fs,c,_,h,_⟩:=h;exact absurd (aag (lC _) h.de) (by decide)
 refine p.F.ok Tq (by ext) λaa A G s H vs Q E l h=>?_;obtain⟨q,o,a,b,f,nm,r,fs,c,rfl,h,k⟩:=h;have L:eZ 2 _:=l.mono (show 2<=n+2 by omega);refine⟨_,(bK (jj 3 Tq.nd (dZ eU (pv 0) dh)) (bK (eX (dM gG (pv 3) dC (dN _)) (d8 (dw (Af (iJ p x l (aK (dZ eU (pv 0) dh) (aK (pv 1) (aK (pv 2) cZ))))))) dI) (bK (eX (dM gG (pv 3) dC (dN _)) (d8 (dw (jf (iJ p x l (aK (dZ eU (pv 0) dh) (aK (pv 1) (aK (pv 2) cZ)))) (kJ (iJ p x l (aK (dZ eU (pv 0) dh) (aK (pv 1) (aK (pv 2) cZ)))))))) dI) (bK (eX (dM gG (pv 3) dC (dN _)) (d8 (dw (Vd (iJ p x l (aK (dZ eU (pv 0) dh) (aK (pv 1) (aK (pv 2) cZ)))) (kJ (iJ p x l (aK (dZ eU (pv 0) dh) (aK (pv 1) (aK (pv 2) cZ)))))))) dI) (d8 (dw (iJ DL GL L (aK (pv 0) (aK (pv 1) (aK (pv 2) cZ)))))))))),?_⟩
 try dsimp only[jr]
 obtain⟨X,td,sh,de,z,B,D,F⟩:=h;have M:=X;cases td with
 |node af lf nr tr=>
 cases X with
 |@tup _ xs _ m rs=>
 obtain⟨J,ys,rfl⟩:∃J ys,xs=J::ys:=by cases rs;exact⟨_,_,rfl⟩
 obtain⟨r0,Y⟩:Rep K H J (.str f)/\gn K H ys r:=by cases rs with|cons a b=>exact⟨a,b⟩
 cases r0;refine⟨_,rfl,q,_,_,_,rfl,rfl,m,dz (j:=0) rfl,_,rfl,rfl,_,rfl,?_⟩;unfold ie at k;rcases qO sh de with⟨ha,O⟩|N
 ·obtain⟨Z,n2,n3⟩:=ur ha;rw[aab Z,aab n2,aab n3]at k;refine gW (lU Z) ⟨_,rfl,rfl,_,rfl,gW (lU n2) ⟨_,rfl,rfl,_,rfl,gW (lU n3) ?_⟩⟩;exact⟨_,rfl,_,rfl,_,rfl,q,o,a,b,f,nm,r,fs,c,rfl,M,BJ O,z,B,D,F,k⟩
 ·rcases ux N tr with⟨rfl,g,u,rfl⟩|⟨hf,g,u,h,v,rfl⟩
  ·rw[aac rfl]at k;cases Y with
   |@cons y1 _ y2 _ r1 r2=>
   cases r2;cases r1 with
   |@tup q1 z1 _ R S=>
   refine j5 (by ext) ⟨_,rfl,q,_,_,_,rfl,rfl,m,dz (j:=1) rfl,_,rfl,_,rfl,q1,o,a,b,g,nm,u,fs,c,rfl,⟨.tup R S,tr _ (by simp),N.sh _ (by simp),N.de _ (by simp),z,B,D,F⟩,λi d=>⟨_,rfl,k i d⟩⟩
  ·cases Y with
   |@cons y1 _ y2 _ r1 r2=>
   cases r2 with
   |@cons y3 _ y4 _ r2 r3=>
   cases r3;cases r1 with
   |@tup q1 z1 _ R S=>
   cases r2 with
   |@tup q2 z2 _ s2 t2=>
   have U:∀{i},di H i->QD K C n i q1 o a b g nm u fs c:=λe=>⟨.tup (e.tup R) (S.same e),tr _ (by simp),N.sh _ (by simp),N.de _ (by simp),z.same e,B,e _ _ D,F⟩;have W:∀{i},di H i->QD K C n i q2 o a b h nm v fs c:=λe=>⟨.tup (e.tup s2) (t2.same e),tr _ (by simp),N.sh _ (by simp),N.de _ (by simp),z.same e,B,e _ _ D,F⟩;rcases hf with rfl|rfl
   ·rw[aab (by ext),aac rfl]at k;refine gW (by ext) ⟨_,rfl,rfl,_,rfl,j5 (by ext) ?_⟩;refine⟨_,rfl,q,_,_,_,rfl,rfl,m,dz (j:=1) rfl,_,rfl,_,rfl,q1,o,a,b,g,nm,u,fs,c,rfl,U (di.refl _),λi d=>⟨_,rfl,?_⟩⟩;dsimp only at k;cases hp:ie nm fs c n g u with
    |false=>rw[hp,abS]at k;exact gW rfl (k _ d)
    | true=>rw[hp,abP]at k;exact j5 rfl ⟨_,rfl,q,_,_,_,rfl,rfl,d.tup m,dz (j:=2) rfl,_,rfl,_,rfl,q2,o,a,b,h,nm,v,fs,c,rfl,W d,λH2 I=>k _ (d.trans I)⟩
   ·rw[aab (by ext),aab (by ext),aac rfl]at k;refine gW (by ext) ⟨_,rfl,rfl,_,rfl,gW (by ext) ⟨_,rfl,rfl,_,rfl,j5 (by ext) ?_⟩⟩;refine⟨_,rfl,q,_,_,_,rfl,rfl,m,dz (j:=1) rfl,_,rfl,_,rfl,q1,o,a,b,g,nm,u,fs,c,rfl,U (di.refl _),λi d=>⟨_,rfl,?_⟩⟩;dsimp only at k;cases hp:ie nm fs c n g u with
    |true=>rw[hp,Bool.true_or]at k;exact j5 rfl (k _ d)
    | false=>rw[hp,Bool.false_or]at k;exact gW rfl ⟨_,rfl,q,_,_,_,rfl,rfl,d.tup m,dz (j:=2) rfl,_,rfl,_,rfl,q2,o,a,b,h,nm,v,fs,c,rfl,W d,λH2 I=>k _ (d.trans I)⟩
end
noncomputable def jM(x:Str)(a:Y2)(n:Nat):List Nat:=(List.range n).filter λi=>decide (a[i]?=some x)
def A_(x y:Str)(t:Y2):jM x (y::t) (t.length+1)=(if y=x then [0]else [])++(jM x t t.length).map Nat.succ:=by
 unfold jM;rw [acm,List.filter_cons,List.filter_map];have e:((λi=>decide ((y::t)[i]?=some x))∘Nat.succ)=λi=>decide (t[i]?=some x):=by funext i;simp
 rw [e];by_cases h:y=x
 ·simp [h]
 ·simp [h]
theorem yJ(x:Str):∀a:List Str,(x∉a->jM x a a.length=[])/\(x∈a->∃r,jM x a a.length=a.idxOf x::r)
 |[]=>⟨λ_=>rfl,λh=>by simp at h⟩
 | y::t=>by
   obtain⟨b,c⟩:=yJ x t;rw[aav,A_];refine⟨λh=>?_,λh=>?_⟩
   ·simp at h;rw[aab (λz=>h.1 z.symm),b h.2];rfl
   ·by_cases e:y=x
    ·rw[aac e];exact⟨_,by rw[List.idxOf_cons,show(y==x)=true from by simp[e]];rfl⟩
    ·rw[aab e];have d:x∈t:=by
      rcases aai.mp h with z|z
      ·exact absurd z.symm e
      ·exact z
     obtain⟨r,f⟩:=c d;refine⟨r.map Nat.succ,?_⟩;rw[f,List.idxOf_cons,show(y==x)=false from by simp[e]];rfl
section
variable{P:ZE}{w:ZH}{K:Zs}{mg:Y1}{base:ZN}
structure V4(K:Zs)(n:Nat)(H:Hp)(q a b:Zl)(f:Str)(r:List PyData)(xs:List V)(fs:List ji)(zs:List Int):Prop where
 rq:Rep K H (.ref q) (.tuple (.str f::r))
 td:TD (.tuple (.str f::r))
 sh:gK (.tuple (.str f::r))=true
 de:iD (.tuple (.str f::r))<=n
 ha:H a=some (.tup xs)
 pf:Paired (jG H) xs fs
 fl:fs.length<=4
 hb:H b=some (.tup (zs.map V.int))
 zl:zs.length=fs.length
inductive K1(K:Zs)(n:Nat)(vs:List V)(H:Hp)(Q:VK)(E:XK):Prop
 |mk (q a b:Zl) (f nm:Str) (r:List PyData) (xs:List V) (fs:List ji) (zs:List Int):vs=[.ref q,.str nm,.ref a,.ref b]->V4 K n H q a b f r xs fs zs->(∀H',di H H'->Q (.bl (ie nm fs zs n f r)) H')->K1 K n vs H Q E
noncomputable abbrev Ry:List Str:=["_law_test_here","_law_title","_law_fields","_law_values"]
noncomputable abbrev Yq:List Str:=["_law_test_here","_law_title","_law_fields","_law_values","_law_both","_law_spots"]
def Rp:du Yq Ry (b_ (top 124)):=by ext
theorem UG (DL:gq K mg "_law_passes" (top 124) Ry f fd) (T:Txt K mg) (n:Nat):dm P w K mg base dU n f fd Ry (K1 K n):=by
 refine Nat.rec (motive:=λ n=>dm P w K mg base dU n f fd Ry (K1 K n)) ⟨λ _ _ _ _ h=>?_,λ _ _ _ _ _ _ _ _ _ _ _ _ _ h=>?_⟩ (λ n GL=>?_) n
 ·obtain ⟨q,a,b,f,nm,r,D,fs,c,_,h,_⟩:=h;exact absurd (aag (lC _) h.de) (by decide)
 ·obtain ⟨q,a,b,f,nm,r,D,fs,c,_,h,_⟩:=h;exact absurd (aag (lC _) h.de) (by decide)
 refine DL.F.ok Rp (by ext) λ al A ad s H vs Q E hr h=>?_;obtain ⟨q,a,b,f,nm,r,D,fs,c,rfl,h,k⟩:=h;refine ⟨_,(bK (eX (dM gG (dZ eU (pv 0) dh) dC (dN _)) (d8 (dw (Af (iJ DL GL hr (aK (dZ eU (pv 0) dh) (aK (pv 1) (aK (pv 2) (aK (pv 3) cZ)))))))) dI) (bK (eX (dM mJ (dZ eU (pv 0) dh) (gw (aK dC (aK dC cZ))) rfl) (bK (jL (g:=eN 0) (i:=4) (own:=["_law_part"]) (js:=[2,1,3]) (N':=["_law_part","_law_fields","_law_title","_law_values"]) (dX.of (osc:=b_ (top 124)) (N:=Yq) rfl rfl (by ext)) rfl Rp.nd rfl rfl (kY (lA pL (pv 0) (mU dh) mR)) (λ _ _ _ _ _=>(fZ (i:=0) (show List.Nodup (["_law_part","_law_fields","_law_title","_law_values"]:Y2) by ext) rfl (.inl rfl) (.inr rfl))) (λ _ _ _ _ _=>gF) (λ _ _ _ _ _=>pG GL hr rfl DL.mg DL.F.kp DL.b .nil dR (aK (pv 0) (aK (pv 2) (aK (pv 1) (aK (pv 3) cZ)))))) (d8 (dw (kO (dM gG (dZ eU (pv 0) dh) dC (dN _)) (dD (uB rfl) (by rfl) T.all Hf (aK (pv 4) cZ)) (dD (Ec rfl) (by rfl) T.any Ob (aK (pv 4) cZ)))))) dI) (bK (eX (dM gG (dZ eU (pv 0) dh) dC (dN _)) (d8 (dw lD)) dI) (bK (eX (dM gG (dZ eU (pv 0) dh) dC (dN _)) (d8 (dw (iz gG (pv 1) (dZ eU (pv 0) dh) (dN _)))) dI) (bK (jL (g:=eN 0) (i:=5) (own:=["_law_at"]) (js:=[2,0]) (N':=["_law_at","_law_fields","_law_test_here"]) (dX.of (osc:=b_ (top 124)) (N:=Yq) rfl rfl (by ext)) rfl Rp.nd rfl rfl (kI rfl T.range (aK (dD dO (by rfl) T.len gD (aK (pv 2) cZ)) cZ)) (λ _ _ _ _ _=>(fZ (i:=0) (show List.Nodup (["_law_at","_law_fields","_law_test_here"]:Y2) by ext) rfl (.inl rfl) (.inr rfl))) (λ _ _ _ _ _=>mC (dM (r:=Xw) gG (dZ (r:=qg K) eU (dZ (r:=qg K) eU (pv 1) (pv 0)) dh) (dZ (r:=qg K) eU (pv 2) dh) (dN _))) (λ _ _ _ _ _=>pv 0)) (bK (eX (dM gG (dD dO (by rfl) T.len gD (aK (pv 5) cZ)) dh (dN _)) (d8 (dw lD)) dI) (d8 (dw (kO (dM gG (dZ eU (pv 0) dh) dC (dN _)) (iz uz (dZ eU (pv 3) (dZ g_ (pv 5) dh)) (dZ eU (pv 0) dh) (dN _)) (iz gG (dZ eU (pv 3) (dZ g_ (pv 5) dh)) (dZ eU (pv 0) dh) (dN _))))))))))),?_⟩
 try dsimp only [jr]
 obtain ⟨rq,td,sh,de,ha,pf,fl,hb,zl⟩:=h;have am:=rq;have pl:=aaV pf;cases td with
 |node af lf nr tr=>
 cases rq with
 |@tup _ qs _ R rs=>
 obtain ⟨x0,ys,rfl⟩:∃ x0 ys,qs=x0::ys:=by cases rs;exact ⟨_,_,rfl⟩
 obtain ⟨r0,rt⟩:Rep K H x0 (.str f)/\gn K H ys r:=by cases rs with|cons a b=>exact ⟨a,b⟩
 cases r0;have hl:=rt.length;refine p8 λ M1 m1=>⟨_,rfl,q,_,_,_,rfl,rfl,R,dz (j:=0) rfl,rfl,_,rfl,?_⟩;unfold ie at k;have ins:∀ {n':Nat} {g:Str} {u:List PyData} {y:V} {J:Hp},di H J->Rep K H y (.tuple (.str g::u))->TD (.tuple (.str g::u))->gK (.tuple (.str g::u))=true->iD (.tuple (.str g::u))≤n'->∃ q1,y=.ref q1/\V4 K n' J q1 a b g u D fs c:=by
  intro n' g u y J e ry t s d;cases ry with
  |@tup q1 z1 _ M t1=>exact ⟨q1,rfl,.tup (e.tup M) (t1.same e),t,s,d,e _ _ ha,j7 pf λ _ _ z=>e _ _ z,fl,e _ _ hb,zl⟩
 rcases qO sh de with ⟨aj,ak⟩|N
 ·obtain ⟨n1,n2,n3⟩:=ur aj;rw [aab n1,aab n2,aab n3] at k;refine gW (lU n1) (m1 _ _ (p8 λ M2 m2=>⟨_,rfl,q,_,_,_,rfl,rfl,R,dz (j:=0) rfl,(by ext),λ t ht=>?_⟩));have C:di H (upd H t (.tup [.str "and",.str "or"])):=di.new ht;refine ⟨t,_,rfl,.inr (gf.of a_),rfl,rfl,_,rfl,?_⟩;rw [R_];generalize upd H t (.tup [.str "and",.str "or"])=U at C ⊢;have o:=C.tup R;refine gW (aaR λ z=>z.elim n2 n3) (m2 _ _ (p8 λ M3 m3=>⟨_,rfl,q,_,_,_,rfl,rfl,o,dz (j:=0) rfl,rfl,_,rfl,?_⟩));have lf:=BJ ak;cases lf with
  |all=>exact j5 (by ext) (k _ C)
  | @is x hx=>
    cases rt with|@cons y1 _ y2 _ r1 r2=>
    cases r2;cases r1;refine gW (by ext) (m3 _ _ (p8 λ M4 m4=>⟨_,rfl,q,_,_,_,rfl,rfl,o,dz (j:=0) rfl,rfl,_,rfl,j5 (by ext) ?_⟩));refine ⟨_,rfl,_,rfl,q,_,_,_,rfl,rfl,o,dz (j:=1) rfl,rfl,?_⟩;have e:decide (V.str nm=V.str x)=qu nm fs c "is" [.str x]:=by unfold qu;rw [aab (by ext)];simp
    show Q (.bl (decide (V.str nm=V.str x))) U;rw [e];exact k _ C
  | @num f' x i O hx hi=>
    cases rt with|@cons y1 _ y2 _ r1 r2=>
    cases r2 with|@cons y3 _ y4 _ r2 r3=>
    cases r3;cases r1;cases r2;have L:decide (V.str f=V.str "all")=false:=by rcases O with rfl|rfl <;> decide +kernel
    have e2:decide (V.str f=V.str "is")=false:=by rcases O with rfl|rfl <;> decide +kernel
    have e3:¬ f = "all":=by rcases O with rfl|rfl <;> decide +kernel
    unfold qu at k;rw [aab e3] at k;dsimp only at k;have Y:=C _ _ ha;have big:200000≤sizeLine:=by decide
    refine gW L (m3 _ _ (p8 λ M4 m4=>⟨_,rfl,q,_,_,_,rfl,rfl,o,dz (j:=0) rfl,rfl,_,rfl,gW e2 (m4 _ _ (p8 λ M5 m5=>?_))⟩));refine ⟨_,rfl,a,D,rfl,.inr (gf.of Y),(D.length:Int),rfl,by omega,by omega,?_⟩;refine xg (lo:=0) (n:=D.length) (λ j I m G=>(∃ v,m=[v,some (.ref a),some (.ref q)])/\G=U/\I=(jM x (fs.map (·.1)) j).map λ j=>V.int (j:Nat)) (by omega) ⟨⟨none,rfl⟩,rfl,rfl⟩ ?_ ?_
    ·rintro j I m G hj ⟨⟨v,rfl⟩,rfl,rfl⟩ N hN;rw [show (0:Int)+(j:Int)=((j:Nat):Int) from abN _];have Z:=aaz hj;obtain ⟨⟨fn,ao,ap⟩,ah,b',e',ai⟩:=jA pf Z;have ag:=C _ _ ai;refine ⟨_,rfl,_,rfl,a,_,_,D[j],rfl,rfl,gf.of Y,dz Z,b',_,_,_,e',rfl,gf.of ag,dz (j:=0) rfl,_,rfl,q,_,_,_,rfl,rfl,o,dz (j:=1) rfl,rfl,_,rfl,?_⟩;have cd:decide (V.str fn=V.str x)=decide ((fs.map (·.1))[j]?=some x):=by rw [aao,ah];simp
     have L:jM x (fs.map (·.1)) (j+1)=jM x (fs.map (·.1)) j++(if decide ((fs.map (·.1))[j]?=some x)=true then [j] else []):=by unfold jM;rw [List.range_succ,abj,List.filter_cons,List.filter_nil]
     refine (show (if decide (V.str fn=V.str x)=true then _ else _) from ?_);rw [cd];cases hd:decide ((fs.map (·.1))[j]?=some x) with
     | true=>rw [hd] at L;exact j5 rfl ⟨_,rfl,hN _ _ _ ⟨⟨_,rfl⟩,rfl,by rw [L];simp⟩ (by simp)⟩
     | false=>rw [hd] at L;exact gW rfl (hN _ _ _ ⟨⟨_,rfl⟩,rfl,by rw [L];simp⟩ (by simp))
    ·rintro I m G hw ⟨⟨v,rfl⟩,rfl,rfl⟩;rw [show D.length=(fs.map (·.1)).length by rw [aad];exact pl] at hw ⊢;refine ⟨aag hw (by rw [aad];omega),λ p hp=>m5 _ _ ?_⟩;obtain ⟨o1,o2⟩:=yJ x (fs.map (·.1));have M:di G (upd G p (.lst ((jM x (fs.map (·.1)) (fs.map (·.1)).length).map λ j=>V.int (j:Nat)))):=di.new hp;have B:(upd G p (.lst ((jM x (fs.map (·.1)) (fs.map (·.1)).length).map λ j=>V.int (j:Nat)))) p=some (.lst ((jM x (fs.map (·.1)) (fs.map (·.1)).length).map λ j=>V.int (j:Nat))):=a_;generalize upd G p (.lst ((jM x (fs.map (·.1)) (fs.map (·.1)).length).map λ j=>V.int (j:Nat)))=J at M B ⊢;have S1:=C.trans M;have S:=S1.tup R;have aa:=S1 _ _ hb;by_cases F:x∈fs.map (·.1)
     ·obtain ⟨rest,er⟩:=o2 F;rw [er,aat] at B;rw [aac F] at k;have il:(fs.map (·.1)).idxOf x<c.length:=by have:=List.idxOf_lt_length_iff.mpr F;rw [aad] at this;omega
      have eg:c.getD ((fs.map (·.1)).idxOf x) 0=c[(fs.map (·.1)).idxOf x]:=by simp [acl,il]
      rw [eg] at k;have ab:qF (c.map V.int) (((fs.map (·.1)).idxOf x:Nat):Int)=some (.int c[(fs.map (·.1)).idxOf x]):=dz (by rw [aao,aaz il];rfl);refine p8 λ M6 m6=>⟨_,rfl,p,_,rfl,.inl (fj.of B),rfl,_,rfl,gW (by simp;omega) (m6 _ _ ?_)⟩;refine ⟨_,rfl,q,_,_,_,rfl,rfl,S,dz (j:=0) rfl,rfl,_,rfl,?_⟩;rcases O with rfl|rfl
      ·refine j5 (by ext) ?_;have:=k _ S1;rw [aac rfl] at this;exact ⟨_,rfl,_,rfl,p,_,_,_,rfl,rfl,fj.of B,dz (j:=0) rfl,b,_,_,_,rfl,rfl,gf.of aa,ab,_,rfl,q,_,_,_,rfl,rfl,S,dz (j:=2) rfl,_,_,rfl,rfl,this⟩
      ·refine gW (by ext) ?_;have:=k _ S1;rw [aab (by ext)] at this;refine ⟨_,rfl,_,rfl,p,_,_,_,rfl,rfl,fj.of B,dz (j:=0) rfl,b,_,_,_,rfl,rfl,gf.of aa,ab,_,rfl,q,_,_,_,rfl,rfl,S,dz (j:=2) rfl,rfl,?_⟩;have e:decide (V.int c[(fs.map (·.1)).idxOf x]=V.int i)=decide (c[(fs.map (·.1)).idxOf x]=i):=by simp
       rw [e];exact this
     ·rw [o1 F,ab0] at B;rw [aab F] at k;exact p8 λ M6 m6=>⟨_,rfl,p,_,rfl,.inl (fj.of B),rfl,_,rfl,j5 (by ext) (k _ S1)⟩
 ·rcases ux N tr with ⟨rfl,g,u,rfl⟩|⟨O,g,u,h,v,rfl⟩
  ·rw [aac rfl] at k;cases rt with
   |@cons y1 _ y2 _ r1 r2=>
   cases r2;obtain ⟨q1,rfl,i1⟩:=ins (di.refl _) r1 (tr _ (by simp)) (N.sh _ (by simp)) (N.de _ (by simp));exact j5 (by ext) ⟨_,rfl,q,_,_,_,rfl,rfl,R,dz (j:=1) rfl,_,rfl,_,rfl,_,rfl,q1,a,b,g,nm,u,D,fs,c,rfl,i1,λ J L=>⟨_,rfl,k J L⟩⟩
  ·have n1:¬ f = "not":=by rcases O with rfl|rfl <;> decide +kernel
   refine gW (lU n1) (m1 _ _ (p8 λ M2 m2=>⟨_,rfl,q,_,_,_,rfl,rfl,R,dz (j:=0) rfl,(by ext),λ t ht=>?_⟩));have C:di H (upd H t (.tup [.str "and",.str "or"])):=di.new ht;refine ⟨t,_,rfl,.inr (gf.of a_),rfl,rfl,_,rfl,?_⟩;rw [R_];generalize upd H t (.tup [.str "and",.str "or"])=U at C ⊢;have o:=C.tup R;refine j5 (aa1 O) ⟨_,rfl,1,rfl,q,_,rfl,o,(λ e=>?_),λ p hp=>?_⟩
   ·rw [zq] at e;have:=aaB List.length e;simp at this
   rw [zq];have sp:gf K (upd U p (.tup ys)) p ys:=gf.of a_;have M:di U (upd U p (.tup ys)):=di.new hp;generalize upd U p (.tup ys)=J at sp M ⊢;refine ⟨p,rfl,⟨_,sp⟩,?_⟩;refine iY (xs:=ys) (λ i I m G=>(∃ v,m=[v,some (.ref a),some (.str nm),some (.ref b)])/\di J G/\I=(([ie nm fs c n g u,ie nm fs c n h v].take i).map V.bl)) (aag (show ys.length≤2 by rw [hl];simp) (by decide)) ⟨⟨none,rfl⟩,di.refl _,rfl⟩ (λ i I m G _ ⟨_,W,_⟩=>W.tup sp) ?_ ?_
   ·rintro i y I m H2 hy ac ⟨⟨v',rfl⟩,W,rfl⟩ N' hN;obtain ⟨d,hd,ry⟩:=rt.get' hy;have me:=aaj hd;have il:i<2:=(aar.mp hd).1;obtain ⟨g',u',rfl,hi⟩:∃ g' u',d=.tuple (.str g'::u')/\([ie nm fs c n g u,ie nm fs c n h v]:List Bool)[i]?=some (ie nm fs c n g' u'):=by
     match i,il,hd with
     |0,_,hd=>exact ⟨g,u,by simpa using hd.symm,rfl⟩
     |1,_,hd=>exact ⟨h,v,by simpa using hd.symm,rfl⟩
    obtain ⟨q1,rfl,i1⟩:=ins ((C.trans M).trans W) ry (tr _ me) (N.sh _ me) (N.de _ me);refine ⟨_,rfl,_,rfl,_,rfl,_,rfl,q1,a,b,g',nm,u',D,fs,c,rfl,i1,λ H3 X=>?_⟩;exact hN _ _ _ (by rw [aas,ac];rfl) ⟨⟨_,rfl⟩,W.trans X,by rw [aaT,hi];simp⟩
   ·rintro I m H2 ac ⟨⟨v',rfl⟩,W,rfl⟩;rw [abd (by rw [hl];simp),show ([ie nm fs c n g u,ie nm fs c n h v]:List Bool).map V.bl=[.bl (ie nm fs c n g u),.bl (ie nm fs c n h v)] from rfl];refine ⟨(by ext),λ l ae=>?_⟩;have X:di H (upd H2 l (.lst [.bl (ie nm fs c n g u),.bl (ie nm fs c n h v)])):=((C.trans M).trans W).trans (di.new ae);have h3:(upd H2 l (.lst [.bl (ie nm fs c n g u),.bl (ie nm fs c n h v)])) l=some (.lst [.bl (ie nm fs c n g u),.bl (ie nm fs c n h v)]):=a_;generalize upd H2 l (.lst [.bl (ie nm fs c n g u),.bl (ie nm fs c n h v)])=H3 at X h3 ⊢;refine ⟨_,rfl,q,_,_,_,rfl,rfl,X.tup R,dz (j:=0) rfl,rfl,_,rfl,?_⟩;rcases O with rfl|rfl
    ·rw [aab (by ext),aac rfl] at k;have:=k _ X;refine j5 (by ext) ⟨_,rfl,l,[ie nm fs c n g u,ie nm fs c n h v],rfl,fj.of h3,?_⟩;simpa using this
    ·rw [aab (by ext),aab (by ext),aac rfl] at k;have:=k _ X;refine gW (by ext) ⟨_,rfl,l,[ie nm fs c n g u,ie nm fs c n h v],rfl,fj.of h3,?_⟩;simpa using this
end
noncomputable def La(e:PyData):Prop:=TD e/\gU e<=60/\∃f r,e=.tuple (.str f::r)
def slw(h:gf K H a c)(e:nT c f g=d)(k:∀l b,di H b->gf K b l d->Q (.ref l) b):Uv K (.ref a) f g H Q:=by subst e;exact⟨a,c,rfl,h,λe=>k a H (di.refl _) (by rw[e];exact h),λp i=>k p _ (di.new i) (gf.of a_)⟩
section
variable{P:ZE}{w:ZH}{K:Zs}{mg:Y1}{base:ZN}
inductive JP(K:Zs)(n:Nat)(vs:List V)(H:Hp)(Q:VK)(E:XK):Prop
 |mk (a:Zl) (ds:List PyData):vs=[.ref a]->Rep K H (.ref a) (.tuple ds)->TD (.tuple ds)->gU (.tuple ds)<=n->n<=8->(∀(l:Zl)(ws:List V)(es:List PyData)(H':Hp),di H H'->H l=none->H' l=some (.lst ws)->gn K H' ws es->(∀e∈es,La e)->es.length<=5 ^ n->Q (.ref l) H')->JP K n vs H Q E
noncomputable abbrev ZQ:List Str:=["_law_test_here","_law_found","_law_part"]
def OD:du ZQ ["_law_test_here"] (b_ (top 126)):=by ext
theorem Vy(DL:gq K mg "_law_leaves_any" (top 126) ["_law_test_here"] f fd)(T:Txt K mg)(n:Nat):dm P w K mg base dU n f fd ["_law_test_here"] (JP K n):=by
 refine Nat.rec (motive:=λn=>dm P w K mg base dU n f fd ["_law_test_here"] (JP K n)) ⟨λ_ _ _ _ h=>?_,λ_ _ _ _ _ _ _ _ _ _ _ _ _ h=>?_⟩ (λn GL=>?_) n
 ·obtain⟨a,I,_,_,_,h,_⟩:=h;exact absurd h (by simp[gU])
 ·obtain⟨a,I,_,_,_,h,_⟩:=h;exact absurd h (by simp[gU])
 refine DL.F.ok OD (by ext) λao A ac s H vs Q E hr h=>?_;obtain⟨a,I,rfl,ra,td,dp,hn,k⟩:=h;refine⟨_,(bK (jj 1 OD.nd (kO (dM (Qk hr.units) (pv 0) (gw cZ) (dN _)) (gC (aK (pv 0) cZ)) (gC cZ))) (bK (j6 aaO rfl (kY (lA pL (pv 0) (mU dh) mR)) (jP 2 OD.nd) (d8 (eX (iT (dD ig (by rfl) T.isinstance eQ (aK (pv 2) (aK (jz rfl T.tuple jE) cZ)))) (d8 (fc (lE aaZ PySem.F.slot_list_extend PySem.F.type_list_extend Dt (pv 1) (aK (iJ DL GL hr (aK (pv 2) cZ)) cZ)))) dI))) (d8 (dw (pv 1))))),?_⟩
 try dsimp only[jr]
 have aq:gU (.tuple I)=gA I+1:=rfl;refine rB (λj x=>∃(l:Zl)(w0:List V)(U:List PyData),j=[some (.ref a),some (.ref l),none]/\di H x/\H l=none/\x l=some (.lst w0)/\gn K x w0 U/\(∀e∈U,La e)/\U.length<=1) ?nx1 λN hN=>?st1
 case st1=>
  refine⟨_,rfl,(by ext),λt ht=>?_⟩;have F:di H (upd H t (.tup [])):=di.new ht;have W:(upd H t (.tup [])) t=some (.tup []):=a_;generalize upd H t (.tup [])=H0 at F W |-;refine⟨I,[],ra.same F,.tup (gf.of W) .nil,by omega,_,rfl,?_⟩;have ae:=td;cases td with
  |nil=>exact gW rfl ⟨(by ext),λl z=>hN _ _ ⟨l,[],[],rfl,F.trans (di.new z),qp F z,a_,.nil,by simp,by simp⟩⟩
  | @node f r af lf nr tr=>refine j5 rfl ⟨_,rfl,(by ext),λl z=>hN _ _ ⟨l,[.ref a],[.tuple (.str f::r)],rfl,F.trans (di.new z),qp F z,a_,.cons ((ra.same F).same (di.new z)) .nil,λe m=>?_,by simp⟩⟩;rw[aam.mp m];exact⟨ae,by omega,_,_,rfl⟩
 rintro j H1⟨l,w0,U,rfl,s1,z,ak,al,am,c0⟩;have ag:∀d∈I.drop 1,TD d/\gU d<=n:=λd m=>by
  cases td with
  |nil=>simp at m
  | @node f r af lf nr tr=>have m:d∈r:=m;exact⟨tr d m,Cp dp m⟩
 have dl:(I.drop 1).length<=4:=by
  cases td with
  |nil=>simp
  |@node f r af lf nr tr=>exact nr
 have p5:5 ^ n<=5 ^ 7:=acV (by decide) (by omega);have p7:(5:Nat) ^ 7=78125:=by decide
 have p1:1<=5 ^ n:=aag Nat.one_le_two_pow (Nat.pow_le_pow_left (by decide) n);have big:1000000<=sizeLine:=by decide
 cases ra with
 |@tup _ L _ sq rs=>
 have X:nT L (some 1) none=L.drop 1:=by
  cases L with
  |nil=>rfl
  |cons x0 ys=>exact zq
 have Y:=uU 1 rs;have xl:=Y.length;refine⟨_,rfl,1,rfl,?_⟩;delta Ck;refine slw (s1.tup sq) X λv H2 s2 sv=>?_;refine⟨v,rfl,⟨_,sv⟩,?_⟩;refine iW (xs:=L.drop 1) (λi j x=>∃B p u,j=[some (.ref a),some (.ref l),u]/\di H x/\gf K x v (L.drop 1)/\x l=some (.lst B)/\gn K x B p/\(∀e∈p,La e)/\p.length<=1+i*5 ^ n) ⟨w0,U,none,rfl,s1.trans s2,sv,s2 _ _ ak,al.same s2,am,by omega⟩ (λi j x _⟨_,_,_,_,_,q,_⟩=>q) ?_ ?_
 ·rintro i y j H3 hy⟨B,p,u,rfl,O,C,g,o,R,c3⟩;have i4:i<4:=by have:=(aar.mp hy).1;omega
  obtain⟨d,hd,ry⟩:=Y.get' hy;obtain⟨aa,ah⟩:=ag d (aaj hd);have G:=ry.same O;have Z:p.length<=1+(i+1)*5 ^ n:=by rw[Nat.add_mul];omega
  have tup:∀c,d=.tuple c->∃q1,y=.ref q1:=λc e=>by
   subst e;cases ry with
   |@tup q1 _ _ _ _=>exact⟨q1,rfl⟩
  have go:∀c,d=.tuple c->∃q1,y=.ref q1/\Rep K H3 (.ref q1) (.tuple c)/\TD (.tuple c)/\gU (.tuple c)<=n:=λc e=>by obtain⟨q1,rfl⟩:=tup c e;subst e;exact⟨q1,rfl,G,aa,ah⟩
  by_cases J:∃c,d=.tuple c
  ·obtain⟨c,e⟩:=J;obtain⟨q1,rfl,ab,ai,aj⟩:=go c e;refine⟨_,rfl,_,_,_,_,rfl,ab,rfl,_,rfl,j5 rfl ?_⟩;refine⟨_,rfl,.inl ⟨rfl,_,fj.of g⟩,_,rfl,q1,c,rfl,ab,ai,aj,by omega,λl2 w2 e2 H4 M ap ad r4 S c4=>?_⟩;have l1:=o.length;have au:=r4.length;have av:i*5 ^ n<=4*5 ^ n:=acU _ (by omega);refine⟨l,l2,B,w2,rfl,rfl,M _ _ g,ad,by omega,?_⟩;refine⟨B++w2,p++e2,_,rfl,λb u' D=>?_,vD (M.tup C) (M _ _ g),a_,sO (M _ _ g) (λD m=>?_) (rW (o.same M) r4),λD m=>?_,?_⟩
   ·rw[c7 (dg D z)];exact M _ _ (O _ _ D)
   ·rcases aak.mp m with m|m
    ·exact(R D m).1
    ·exact(S D m).1
   ·rcases aak.mp m with m|m
    ·exact R D m
    ·exact S D m
   ·rw[aas,Nat.add_mul];omega
  ·cases aa with
   |str _ _=>exact⟨_,rfl,_,_,_,_,rfl,G,rfl,_,rfl,gW rfl ⟨B,p,_,rfl,O,C,g,o,R,Z⟩⟩
   |int _ _=>exact⟨_,rfl,_,_,_,_,rfl,G,rfl,_,rfl,gW rfl ⟨B,p,_,rfl,O,C,g,o,R,Z⟩⟩
   |nil=>exact absurd ⟨_,rfl⟩ J
   |node af lf nr tr=>exact absurd ⟨_,rfl⟩ J
 ·rintro j H3⟨B,p,u,rfl,O,C,g,o,R,c3⟩;refine⟨_,rfl,k l B p H3 O z g o R ?_⟩;have:(L.drop 1).length*5 ^ n<=4*5 ^ n:=acU _ (by omega);rw[Nat.pow_succ];omega
end
noncomputable def U9(K:Zs):List V->Hp->VK->Prop:=λa H Q=>∃p ys,a=[.ref p]/\(fj K H p ys\/gf K H p ys)/\Q (.int ys.length) H
noncomputable def L3(e:PyData):Prop:=TD e/\gU e<=60/\∃f a b,e=.tuple [.str f,a,b]
theorem ints_rep:∀a:List Int,gn K H (a.map V.int) (a.map PyData.int)
 |[]=>.nil
 |y::r=>.cons (.int y) (ints_rep r)
theorem uC:∀a:List Int,gA (a.map PyData.int)<=60
 |[]=>by simp[gA]
 | y::r=>by have:=uC r;simp only[aat,gA,gU];omega
section
variable{P:ZE}{w:ZH}{K:Zs}{mg:Y1}{base:ZN}
abbrev Bx(a:List Int)(fs:List ji):Prop:=Paired (λ(z:Int)(f:ji)=>f.2.1<=z/\z<=f.2.2) a fs
inductive Hi(K:Zs)(vs:List V)(H:Hp)(Q:VK)(E:XK):Prop
 |mk (p dc q a:Zl) (ds:List PyData) (xs:List V) (fs:List ji):vs=[.ref p,.ref q,.ref a]->Dr H p dc->Rep K H (.ref q) (.tuple ds)->TD (.tuple ds)->gU (.tuple ds)<=7->H a=some (.tup xs)->Paired (jG H) xs fs->fs.length<=4->(∀f∈fs,nU f)->(∀(b:Zl)(zs:List Int)(H':Hp),H' b=some (.tup (zs.map V.int))->zs.length=fs.length->Bx zs fs->Dr H' p dc->ii p H H'->H b=none->Q (.ref b) H')->Hi K vs H Q E
inductive F_(K:Zs)(vs:List V)(H:Hp)(Q:VK)(E:XK):Prop
 |mk (p dc:Zl) (x:V) (f:ji):vs=[.ref p,x]->Dr H p dc->jG H x f->nU f->(∀(z:Int)(H':Hp),f.2.1<=z->z<=f.2.2->Dr H' p dc->ii p H H'->Q (.int z) H')->F_ K vs H Q E
noncomputable abbrev Wj:List Str:=["_law_d","_law_test_here","_law_fields"]
noncomputable abbrev Z6:List Str:=["_law_d","_law_test_here","_law_fields","_law_asked","_law_found","_law_field","_law_near","_law_number_here"]
def zL:du Z6 Wj (b_ (top 125)):=by ext
def Om (F:ir K "_law_near_values" "_law_near_values" (top 125) f fd) (T:Txt K mg) (hmax:mg "max" = none) (DP:gq K mg "_law_pick" (top 113) ["_law_d","_law_many"] fP fdP) (DV:gq K mg "_law_value" (top 118) ["_law_d","_law_field"] fV fdV) (GV:dm P w K mg base dU 3 fV fdV ["_law_d","_law_field"] (F_ K)) (DL:gq K mg "_law_leaves_any" (top 126) ["_law_test_here"] fL fdL):dm P w K mg base dU 8 f fd Wj (Hi K):=by
 have GP:dm P w K mg base dU 1 fP fdP ["_law_d","_law_many"] jK:=jH DP.F T;have GL:dm P w K mg base dU 7 fL fdL ["_law_test_here"] (JP K 7):=Vy DL T 7;refine F.ok zL (by ext) λaw A aM s H vs Q E hr h=>?_;obtain⟨p,dc,q,a,ds,xs,fs,rfl,D,rq,td,dp,ha,pf,fl,fo,k⟩:=h;have am:eZ 1 _:=hr.mono (by decide);have aS:eZ 3 _:=hr.mono (by decide);refine⟨_,(bK (jL (g:=eN 0) (i:=3) (own:=["_law_leaf_here"]) (js:=[]) (N':=["_law_leaf_here"]) (dX.of (osc:=b_ (top 125)) (N:=Z6) rfl rfl (by ext)) rfl zL.nd rfl rfl (h_ (iJ DL GL hr (aK (pv 1) cZ))) (λ_ _ _ _ _=>(fZ (i:=0) (show List.Nodup (["_law_leaf_here"]:Y2) by ext) rfl (.inl rfl) (.inr rfl))) (λ_ _ _ _ _=>mC (PW.pt (oK (dM (r:=YK K false) mJ (dZ (r:=qg K) eU (pv 0) dh) (gw (aK dC (aK dC cZ))) rfl) (mQ (dM (r:=Xw) gG (dD (r:=U9 K) dO (by rfl) T.len gD (aK (pv 0) cZ)) dh (dN _)))))) (λ_ _ _ _ _=>pv 0)) (bK (jj 4 zL.nd (gC cZ)) (bK (j6 aaO rfl (kY (pv 2)) (jP 5 zL.nd) (bK (jL (g:=eN 0) (i:=6) (own:=["_law_leaf_here"]) (js:=[5]) (N':=["_law_leaf_here","_law_field"]) (dX.of (osc:=b_ (top 125)) (N:=Z6) rfl rfl (by ext)) rfl zL.nd rfl rfl (h_ (pv 3)) (λ_ _ _ _ _=>(fZ (i:=0) (show List.Nodup (["_law_leaf_here","_law_field"]:Y2) by ext) rfl (.inl rfl) (.inr rfl))) (λ_ _ _ _ _=>mC (PW.pt (oK (dM (r:=RX K) (Hy hr.units) (dZ (r:=qg K) eU (pv 0) dh) (dZ (r:=qg K) eU (pv 1) dh) (dN _)) (mQ (iT (dD (r:=V6 K) ig (by rfl) T.isinstance eQ (aK (dZ (r:=qg K) eU (pv 0) dh) (aK (jz rfl T.int pZ) cZ)))))))) (λ_ _ _ _ _=>dZ (r:=qg K) eU (pv 0) dh)) (bK (jj 7 zL.nd (iJ DV GV aS (aK (pv 0) (aK (pv 5) cZ)))) (bK (eX (PW.pt (oK (dM (R7 hr.units) (pv 6) (gC cZ) (dN _)) (mQ (dM yI (iJ DP GP am (aK (pv 0) (aK dh cZ))) dh (dN _))))) (d8 (jj 7 zL.nd (dD (CQ rfl) (by rfl) T.min R8 (aK (dZ eU (pv 5) dh) (aK (dD (Ep rfl) (by rfl) hmax Q3 (aK (dZ eU (pv 5) dh) (aK (fX jR (fX iI (dZ g_ (pv 6) (iJ DP GP am (aK (pv 0) (aK (dD dO (by rfl) T.len gD (aK (pv 6) cZ)) cZ)))) (iJ DP GP am (aK (pv 0) (aK dh cZ)))) dh) cZ))) cZ))))) dI) (d8 (fc (lE aaZ aa3 aa8 j4 (pv 4) (aK (pv 7) cZ)))))))) (d8 (dw (jJ jn (by rfl) T.tuple jE (aK (pv 4) cZ))))))),?_⟩;have big:1000000<=sizeLine:=by decide
 have p7:(5:Nat) ^ 7=78125:=by decide
 have pl:=aaV pf;have ao:∀{G:Hp} {b:Zl} {o:HO},H b=some o->(∀aD,o≠.dK aD)->ii p H G->G b=some o:=λe ne b=>b _ _ e (D.ne e ne);refine kh λDa ca=>⟨_,rfl,q,ds,rfl,rq,td,dp,by decide,λl0 aN a3 H1 s1 a4 ax r1 aO c1=>?_⟩;rw[p7]at c1;have wl:=r1.length;refine⟨l0,rfl,⟨_,fj.of ax⟩,?_⟩;refine oO (xs:=aN) (λi L x G=>(∃v,x=[v])/\di H1 G/\∃Z,gn K G L Z/\∀e∈Z,L3 e) (by omega) ⟨⟨none,rfl⟩,di.refl _,[],.nil,by simp⟩ (λi L x G _ ⟨_,s',_⟩=>s'.seq (fj.of ax)) ?_ ?_
 ·rintro i y L x H2 hy ⟨⟨v,rfl⟩,s2,Z,rz,l3⟩ N X;obtain⟨e,he,ry⟩:=r1.get' hy;obtain⟨aq,au,g,r,rfl⟩:=aO e (aaj he);have aE:=ry.same s2;have aF:=aE;cases aE with
  |@tup q1 us _ sq ai=>
  obtain⟨x0,ae,rfl⟩:∃x0 ae,us=x0::ae:=by cases ai;exact⟨_,_,rfl⟩
  obtain⟨h0,ht⟩:Rep K H2 x0 (.str g)/\gn K H2 ae r:=by cases ai with|cons a b=>exact⟨a,b⟩
  cases h0;have ul:=ht.length;refine⟨_,rfl,q1,_,_,_,rfl,rfl,sq,dz (j:=0) rfl,(by ext),λt aP=>?_⟩;have R:di H2 (upd H2 t (.tup [.str "less",.str "same"])):=di.new aP;refine⟨t,_,rfl,.inr (gf.of a_),rfl,rfl,_,rfl,?_⟩;generalize upd H2 t (.tup [.str "less",.str "same"])=H3 at R |-;refine jT (λ_=>?_) (λ_=>gW rfl (X _ _ _ ⟨⟨_,rfl⟩,s2.trans R,Z,rz.same R,l3⟩ (by simp)));refine⟨_,rfl,q1,_,rfl,.inr (R.tup sq),rfl,_,rfl,jT (λh3=>?_) (λ_=>X _ _ _ ⟨⟨_,rfl⟩,s2.trans R,Z,rz.same R,l3⟩ (by simp))⟩;obtain⟨d1,d2,rfl⟩:∃d1 d2,r=[d1,d2]:=by
   have:r.length=2:=by simp at h3;omega
   match r,this with
   |[d1,d2],_=>exact⟨d1,d2,rfl⟩
  refine⟨_,rfl,X _ _ _ ⟨⟨_,rfl⟩,s2.trans R,Z++[.tuple [.str g,d1,d2]],rW (rz.same R) (.cons (aF.same R) .nil),λe' m=>?_⟩ (by simp)⟩;rcases aak.mp m with m|m
  ·exact l3 e' m
  ·rw[aam.mp m];exact⟨aq,au,g,d1,d2,rfl⟩
 ·rintro L x H2 hz ⟨⟨v,rfl⟩,s2,Z,rz,l3⟩;refine⟨by omega,λW aQ=>?_⟩;have S2:=s1.trans s2;have R:di H2 (upd H2 W (.lst L)):=di.new aQ;have h3:(upd H2 W (.lst L)) W=some (.lst L):=a_;generalize upd H2 W (.lst L)=H3 at R h3 |-;refine ca _ _ (kh λDb cb=>?_);refine⟨(by ext),λM ak=>?_⟩;have s4:di H3 (upd H3 M (.lst [])):=di.new ak;have h4:(upd H3 M (.lst [])) M=some (.lst []):=a_;generalize upd H3 M (.lst [])=H4 at s4 h4 |-;have S4:=S2.trans (R.trans s4);have D4:=D.mono S4;have aa:H M=none:=qp (S2.trans R) ak;have ap:M≠p:=(D.neN aa).symm;have aT:M≠dc:=by obtain⟨ws,e⟩:=D.cell;exact(dg e aa).symm
  have aU:W≠M:=λz=>by rw[z,ak]at h3;cases h3
  refine cb _ _ (kh λDc cc=>?_);refine⟨_,rfl,a,rfl,⟨xs,gf.of (S4 _ _ ha)⟩,?_⟩;refine iW (xs:=xs) (λi x G=>∃(B:List Int) (u5 u6 u7:Option V),x=[some (.ref p),some (.ref q),some (.ref a),some (.ref W),some (.ref M),u5,u6,u7]/\Dr G p dc/\ii p H G/\G W=some (.lst L)/\gn K G L Z/\G M=some (.lst (B.map V.int))/\B.length=i/\Bx B (fs.take i)) ⟨[],none,none,none,rfl,D4,S4.but,s4 _ _ h3,(rz.same R).same s4,h4,rfl,.nil⟩ (λi x G _ ⟨_,_,_,_,_,_,b',_⟩=>gf.of (ao ha (by intro _ z;cases z) b')) ?_ ?_
  ·rintro i y x H5 hy ⟨B,u5,u6,u7,rfl,D5,b5,J,ah,U,zl,bx⟩;dsimp only[eN,List.set];refine xx λDd hd=>kh λDe ce=>?_;obtain⟨⟨fn,lo,hi⟩,av,bf,rfl,aL⟩:=jA pf hy;have il:i<xs.length:=(aar.mp hy).1;have aj:=ao aL (by intro _ z;cases z) b5;refine⟨_,rfl,W,rfl,⟨_,fj.of J⟩,?_⟩;refine oO (xs:=L) (λi ns x G=>(∃v,x=[v,some (.ref bf)])/\G=H5/\∃C:List Int,ns=C.map V.int) (by omega) ⟨⟨none,rfl⟩,rfl,[],rfl⟩ (λi ns x G _ ⟨_,e,_⟩=>by rw[e];exact fj.of J) ?_ ?_
   ·rintro j y ns x H6 a2 ⟨⟨v,rfl⟩,rfl,C,rfl⟩ N X;obtain⟨e,he,ry⟩:=ah.get' a2;obtain⟨aq,au,g,d1,d2,rfl⟩:=l3 e (aaj he);cases ry with
    |@tup q1 us _ sq ai=>
    cases ai with|@cons x0 _ ae _ w0 w1=>
    cases w1 with|@cons x1 _ a6 _ w1 w2=>
    cases w2 with|@cons x2 _ a7 _ w2 w3=>
    cases w3;cases aq with
    |node af a8 nr tr=>
    have e1:gU d1<=59:=Cp (n:=59) au (by simp);have t2:=tr d2 (by simp);refine⟨_,rfl,q1,_,_,_,rfl,rfl,sq,dz (j:=1) rfl,_,rfl,bf,_,_,_,rfl,rfl,gf.of aj,dz (j:=0) rfl,d1,.str fn,w1,.str _,by omega,_,rfl,jT (λ_=>?_) (λ_=>gW rfl (X _ _ _ ⟨⟨_,rfl⟩,rfl,C,rfl⟩ (by simp)))⟩;cases t2 with
    | @int i2 _ _=>cases w2;refine⟨_,rfl,q1,_,_,_,rfl,rfl,sq,dz (j:=2) rfl,_,_,_,_,rfl,.int i2,rfl,_,rfl,j5 rfl ?_⟩;exact⟨_,rfl,q1,_,_,_,rfl,rfl,sq,dz (j:=2) rfl,X _ _ _ ⟨⟨_,rfl⟩,rfl,C++[i2],by simp⟩ (by simp)⟩
    |str _ _=>exact⟨_,rfl,q1,_,_,_,rfl,rfl,sq,dz (j:=2) rfl,_,_,_,_,rfl,w2,rfl,_,rfl,gW rfl (X _ _ _ ⟨⟨_,rfl⟩,rfl,C,rfl⟩ (by simp))⟩
    |nil=>exact⟨_,rfl,q1,_,_,_,rfl,rfl,sq,dz (j:=2) rfl,_,_,_,_,rfl,w2,rfl,_,rfl,gW rfl (X _ _ _ ⟨⟨_,rfl⟩,rfl,C,rfl⟩ (by simp))⟩
    |node _ _ _ _=>exact⟨_,rfl,q1,_,_,_,rfl,rfl,sq,dz (j:=2) rfl,_,_,_,_,rfl,w2,rfl,_,rfl,gW rfl (X _ _ _ ⟨⟨_,rfl⟩,rfl,C,rfl⟩ (by simp))⟩
   ·rintro ns x H6 hn ⟨⟨v,rfl⟩,rfl,C,rfl⟩;rw[aad]at hn;refine⟨by rw[aad];omega,λln ay=>?_⟩;have s7:di H6 (upd H6 ln (.lst (C.map V.int))):=di.new ay;have h7:(upd H6 ln (.lst (C.map V.int))) ln=some (.lst (C.map V.int)):=a_;generalize upd H6 ln (.lst (C.map V.int))=H7 at s7 h7 |-;refine ce _ _ (kh λDf cf=>?_);have D7:=D5.mono s7;refine⟨_,rfl,_,rfl,p,dc,.ref bf,(fn,lo,hi),rfl,D7,⟨bf,rfl,s7 _ _ aj⟩,fo _ (aaj av),λz H8 z0 z1 D8 b8=>?_⟩;dsimp only at z0 z1;have lh:lo<=hi:=(fo _ (aaj av)).le;have aV:ii p H H8:=(b5.trans s7.but).trans b8;have aW:H8 ln=some (.lst (C.map V.int)):=b8 _ _ h7 (D7.ne h7 (by intro _ z;cases z));have aG:H8 W=some (.lst L):=b8 _ _ (s7 _ _ J) (D7.ne (s7 _ _ J) (by intro _ z;cases z));have aX:=D7.reps b8 (ah.same s7);have aH:H8 M=some (.lst (B.map V.int)):=b8 _ _ (s7 _ _ U) ap;clear b8 D7 U ah J D5 b5 s7 ay h7;refine cf _ _ ?_
    try dsimp only[eN]
    refine rB (λx G=>∃z':Int,x=[some (.ref p),some (.ref q),some (.ref a),some (.ref W),some (.ref M),some (.ref bf),some (.ref ln),some (.int z')]/\Dr G p dc/\ii p H G/\G W=some (.lst L)/\gn K G L Z/\G M=some (.lst (B.map V.int))/\lo<=z'/\z'<=hi) ?nx2 λN X=>?st2
    case st2=>
     refine⟨_,rfl,(by ext),λl hl=>?_⟩;have s9:di H8 (upd H8 l (.lst [])):=di.new hl;have aI:(upd H8 l (.lst [])) l=some (.lst []):=a_;generalize upd H8 l (.lst [])=H9 at s9 aI |-;have D9:=D8.mono s9;have b9:ii p H H9:=aV.trans s9.but;have aJ:=s9 _ _ aW;have S:=s9 _ _ aG;have ag:=aX.same s9;have I:=s9 _ _ aH;refine⟨C.map PyData.int,[],.lst (fj.of aJ) (ints_rep C),.lst (fj.of aI) .nil,uC C,_,rfl,?_⟩;by_cases hk:C=[]
     ·have e:(!jw (C.map PyData.int) [])=false:=by subst hk;rfl
      rw[e];exact gW rfl (gW rfl (X _ _ ⟨z,rfl,D9,b9,S,ag,I,z0,z1⟩))
     ·have e:(!jw (C.map PyData.int) [])=true:=by obtain⟨y,r,rfl⟩:=List.exists_cons_of_ne_nil hk;rfl
      rw[e];have k1:0<C.length:=ab5.mpr hk;have ab:∀{O Y:Hp},Dr O p dc->O ln=some (.lst (C.map V.int))->O W=some (.lst L)->gn K O L Z->O M=some (.lst (B.map V.int))->ii p O Y->Y ln=some (.lst (C.map V.int))/\Y W=some (.lst L)/\gn K Y L Z/\Y M=some (.lst (B.map V.int)):=λd e1 e2 e3 e4 b=>⟨b _ _ e1 (d.ne e1 (by intro _ z;cases z)),b _ _ e2 (d.ne e2 (by intro _ z;cases z)),d.reps b e3,b _ _ e4 ap⟩;refine j5 rfl ⟨_,rfl,p,dc,_,rfl,D9,by decide,by decide,λw1 O w0 w2 al az=>?_⟩;obtain⟨g1,g2,g3,g4⟩:=ab D9 aJ S ag I az;have ac:=b9.trans az;have ad:=ao aL (by intro _ z;cases z) ac;refine⟨_,_,rfl,rfl,_,rfl,jT (λ_=>?_) (λ_=>X _ _ ⟨z,rfl,al,ac,g2,g3,g4,z0,z1⟩)⟩;refine⟨_,rfl,bf,_,_,_,rfl,rfl,gf.of ad,dz (j:=2) rfl,_,rfl,bf,_,_,_,rfl,rfl,gf.of ad,dz (j:=1) rfl,?_⟩;refine⟨_,rfl,_,rfl,_,rfl,ln,_,rfl,.inl (fj.of g1),p,dc,_,rfl,al,by rw[aad];lia,by rw[aad];lia,λa' Y a0 a1 aA aB=>?_⟩;obtain⟨ka,rfl⟩:=acR a0;have aY:ka<C.length:=by rw[aad]at a1;omega
      obtain⟨f1,f2,f3,f4⟩:=ab al g1 g2 g3 g4 aB;refine⟨ln,_,_,.int C[ka],rfl,rfl,fj.of f1,dz (by rw[aao,aaz aY];rfl),_,rfl,p,dc,_,rfl,aA,by decide,by decide,λc a5 c0 c1 aR aC=>?_⟩;obtain⟨e1,e2,e3,e4⟩:=ab aA f1 f2 f3 f4 aC;exact⟨_,_,rfl,rfl,_,_,rfl,rfl,_,_,rfl,_,_,rfl,X _ _ ⟨_,rfl,aR,(ac.trans aB).trans aC,e2,e3,e4,by dsimp only;split<;> split at* <;> omega,by dsimp only;split<;> omega⟩⟩
    rintro x H9 ⟨z',rfl,D9,b9,S,ag,I,y0,y1⟩;have aZ:B.length<4:=by omega
    refine⟨_,rfl,.inl ⟨rfl,_,fj.of I⟩,_,rfl,M,_,_,rfl,rfl,I,aaF (show(B.map V.int).length<4 by rw[aad];exact aZ) (by decide),?_⟩;refine hd _ _ ⟨B++[z'],_,_,_,rfl,D9.put ap aT,λb o e ne=>?_,?_,sO I (λe m=>(l3 e m).1) ag,?_,by rw[aas,zl];rfl,?_⟩
    ·rw[c7 (dg e aa)];exact b9 b o e ne
    ·rw[c7 aU];exact S
    ·rw[a_,aaw];rfl
    ·rw[aaT,av];exact Paired.snoc bx ⟨y0,y1⟩
  ·rintro x H5 ⟨B,u5,u6,u7,rfl,D5,b5,J,ah,U,zl,bx⟩;rw[pl,aaL]at bx;refine cc _ _ ?_;refine⟨_,rfl,M,_,rfl,.inl ⟨fj.of U,λb hb=>k b B _ a_ (by omega) bx (D5.new hb) (b5.trans (ii.new hb)) ?_⟩⟩;cases z:H b with
   |none=>rfl
   | some o=>
     by_cases e:b=p
     ·obtain⟨aD,e5⟩:=D5.dk;rw[e,e5]at hb;cases hb
     ·have:=b5 _ _ z e;rw[hb]at this;cases this
end
section
variable{P:ZE}{w:ZH}{K:Zs}{mg:Y1}{base:ZN}{Z:LC}
inductive R4(Z:LC)(vs:List V)(H:Hp)(Q:VK)(E:XK):Prop
 |mk (c:Zl) (m:Cl):vs=[.ref c]->iU Z H c m->tO m.nm m.fi->(∀c' H',H c'=none->di H H'->iU Z H' c' m->Q (.ref c') H')->R4 Z vs H Q E
def TX:du ["self","other"] ["self"] (b_ (cM 2)):=by ext
def Ui(F:ir K "twin" "Claim.twin" (cM 2) f S)(L:LZ K mg Z)(I:Mk K Z.c R)(GI:dm P w K mg base dU 6 R y ["self","ticket","time","kind"] (JK Z))(bI:Binds K y ["self","ticket","time","kind"] []):dm P w K mg base dU 8 f S ["self"] (R4 Z):=by
 refine F.ok TX (by ext) λT A z s H vs Q E U h=>?_;obtain⟨c,m,rfl,cl,ko,q⟩:=h;refine⟨_,(bK (jj 1 TX.nd (lL (E:=E0) I GI U rfl L.cmg bI .nil dR (aK (dq (pv 0) rfl) (aK (dq (pv 0) rfl) (aK (dq (pv 0) rfl) cZ))))) (bK (dY (pv 1) (dq (pv 0) rfl) rfl) (bK (dY (pv 1) (dq (pv 0) rfl) rfl) (d8 (dw (pv 1)))))),?_⟩;obtain⟨r,k,a,t,e,ka,M⟩:=id cl.ex;refine⟨_,rfl,c,Z.c,r,_,_,rfl,e,L.cc,L.c1,rfl,_,rfl,c,Z.c,r,_,_,rfl,e,L.cc,L.c2,rfl,_,rfl,c,Z.c,r,_,_,rfl,e,L.cc,L.c3,rfl,λx i j l B=>?_⟩;have X:di H (upd (upd H i (.own x)) x (.ins Z.c i [])):=(di.new l).trans (di.new (by rw[c7 B.symm];exact j));refine⟨x,i,k,a,m.tk,m.tm,m.nm,m.fi,rfl,a_,ka.kt (di.kt X),ko,λn C W=>⟨rfl,?_⟩⟩;have J:di H n:=gY j l W;obtain⟨d,kk,N,v,O,G,_⟩:=C.ex;have Y:=J _ _ e;refine⟨_,rfl,c,Z.c,r,_,_,rfl,Y,L.cc,L.c4,rfl,_,rfl,x,Z.c,d,_,rfl,O,L.cc,L.c4,(show 5<1000 by decide),?_⟩;have ab:c≠x:=dg e j;have g:∀b u,H b=some u->(upd n x (.ins Z.c d (gJ "filled" (.ref t) (xY (gh m.tk m.tm m.nm m.fi) kk v)))) b=some u:=λb u o=>by rw[c7 (dg o j)];exact J _ _ o
 have p:gZ Z.k (upd n x (.ins Z.c d (gJ "filled" (.ref t) (xY (gh m.tk m.tm m.nm m.fi) kk v)))) kk m.nm N m.fi:=G.kt (Kt.ins O L.ok.kc);have D:(upd n x (.ins Z.c d (gJ "filled" (.ref t) (xY (gh m.tk m.tm m.nm m.fi) kk v)))) x=some (.ins Z.c d (gJ "filled" (.ref t) (xY (gh m.tk m.tm m.nm m.fi) kk v))):=a_;generalize upd n x (.ins Z.c d (gJ "filled" (.ref t) (xY (gh m.tk m.tm m.nm m.fi) kk v)))=H2 at g p D|-;refine⟨_,rfl,c,Z.c,r,_,_,rfl,g _ _ e,L.cc,L.c5,rfl,_,rfl,x,Z.c,d,_,rfl,D,L.cc,L.c5,(show 5<1000 by decide),?_⟩;refine⟨_,rfl,q x _ j (λb u o=>by rw[c7 (dg o j)];exact g _ _ o) ⟨d,kk,N,t,a_,p.kt (Kt.ins D L.ok.kc),?_⟩⟩;rw[c7 (dg M j)];exact g _ _ M
structure Ga(H:Hp)(s:PA):Prop where
 p:H s.p=none
 l:H s.l=none
 cs:∀c∈s.cs,H c=none
 nd:s.cs.Nodup
inductive Pk(Z:LC)(vs:List V)(H:Hp)(Q:VK)(E:XK):Prop
 |mk (s:PA) (m:Pg):vs=[.ref s.p]->iZ Z H s m->s.cs.length<=900->(∀c∈m.cs,tO c.nm c.fi)->(∀s' H',Ga H s'->di H H'->iZ Z H' s' m->Q (.ref s'.p) H')->Pk Z vs H Q E
def Th:du ["self","other"] ["self"] (b_ (gM 3)):=by ext
def RQ(F:ir K "twin" "Page.twin" (gM 3) f fd)(L:LZ K mg Z)(MkP:Mk K Z.p fI)(FI:ir K "__init__" "Page.__init__" (gM 0) fI I)(bI:Binds K I ["self"] [])(MC:MD K Z.c "twin" "Claim.twin" (cM 2) ["self"] fC fdC)(GC:dm P w K mg base dU 8 fC fdC ["self"] (R4 Z)):dm P w K mg base dU 9 f fd ["self"] (Pk Z):=by
 have GI:dm P w K mg base dU 1 fI I ["self"] (Ji Z):=Gn FI L;refine F.ok Th (by ext) λad A ae s H vs Q E hr h=>?_;obtain⟨J,m,rfl,pg,hl,ko,q⟩:=h;have ah:eZ 2 _:=hr.mono (by decide);refine⟨_,(bK (jj 1 Th.nd (rD (E:=E0) MkP GI ah rfl L.pmg bI .nil dR)) (bK (dY (pv 1) (jb (g:=eN 0) (own:=["claim"]) (js:=[]) (N':=["claim"]) (dX.of (osc:=b_ (gM 3)) (N:=["self","other"]) rfl rfl (by ext)) rfl (h_ (dq (pv 0) (by rfl))) (λ_ _ _ _ _=>(fZ (i:=0) (show List.Nodup (["claim"]:Y2) by ext) rfl (.inl rfl) (.inr rfl))) (λ_ _ _ _ _=>gF) (λ_ _ _ _ _=>gb (E:=E0) (pv 0) L.cc MC.M GC hr MC.b .nil dR)) rfl) (bK (dY (pv 1) (dq (pv 0) rfl) rfl) (bK (dY (pv 1) (dq (pv 0) rfl) rfl) (d8 (dw (pv 1))))))),?_⟩;refineλx l hx af ak=>?_;refine⟨x,l,rfl,a_,λl0 S am e1 ao k1=>⟨rfl,?_⟩⟩;have D:di H S:=gY hx af k1;obtain⟨dx,M⟩:=pg.ob;have ai:=D _ _ M;have pl:=pg.cs.len;refine⟨_,rfl,J.p,Z.p,dx,_,_,rfl,ai,L.pc,L.p1,rfl,J.l,rfl,⟨_,fj.of (D _ _ pg.ls)⟩,?_⟩;refine iY (xs:=J.cs.map V.ref) (λi ys n H'=>(∃v,n=[v])/\di S H'/\∃a:List Addr,ys=a.map V.ref/\Pd (iU Z H') a (m.cs.take i)/\(∀c∈a,S c=none)/\a.Nodup) (by rw[aad];exact aag hl (by decide)) ⟨⟨none,rfl⟩,di.refl _,[],rfl,.nil,(λc h=>by cases h),abe⟩ (λi ys n H' _⟨_,e,_⟩=>fj.of (e _ _ (D _ _ pg.ls))) ?_ ?_
 ·rintro i y ys n O hy ab⟨⟨v,rfl⟩,R,a,rfl,B,nw,nd⟩;rw[aao]at hy;obtain⟨c,W,rfl⟩:=abC.mp hy;obtain⟨mc,aa,rc⟩:=pg.cs.at W;obtain⟨dc,kc,ac,tc,ec,_⟩:=rc.ex;have S2:=D.trans R;intro N hN;refine⟨_,rfl,c,dc,_,rfl,S2 _ _ ec,rfl,c,mc,rfl,rc.same S2,ko mc (aaj aa),λc' H3 T U ag=>hN _ _ _ (by rw[aas,ab];rfl) ⟨⟨_,rfl⟩,R.trans U,a++[c'],by rw[aaw];rfl,?_,?_,?_⟩⟩
  ·rw[aaT,aa];exact Pd.app (.cons ag .nil) (B.map λ_ _ r=>r.same U)
  ·intro b C;rcases aak.mp C with C|C
   ·exact nw b C
   ·cases aam.mp C;exact e_ R T
  ·refine aa9.mpr ⟨nd,by simp,λb C d hd=>?_⟩;cases aam.mp hd;obtain⟨j,hj⟩:=aax.mp C;obtain⟨y,_,ry⟩:=B.at hj;obtain⟨_,_,_,_,eb,_⟩:=ry.ex;exact dg eb T
 ·rintro ys n O ab⟨⟨v,rfl⟩,R,a,rfl,B,nw,nd⟩;have al:a.length=m.cs.length:=by rw[B.len,aaS,aad];omega
  refine⟨by rw[aad];exact aag (show a.length<=900 by omega) (by decide),λp hp=>?_⟩;have B:Pd (iU Z O) a m.cs:=by have:m.cs.take (J.cs.map V.ref).length=m.cs:=abd (by rw[aad];omega);rw[this]at B;exact B
  have U:=di.new (o:=.lst (a.map V.ref)) hp;have S3:di S (upd O p (.lst (a.map V.ref))):=R.trans U;have X:(upd O p (.lst (a.map V.ref))) p=some (.lst (a.map V.ref)):=a_;have Y:Pd (iU Z (upd O p (.lst (a.map V.ref)))) a m.cs:=B.map λ_ _ r=>r.same U;have G:S p=none:=e_ R hp;generalize upd O p (.lst (a.map V.ref))=H3 at S3 X Y|-;have ex:=S3 _ _ e1;have nx:∀{b u},H b=some u->b≠x:=λe=>dg e hx;have aj:p≠x:=λz=>by rw[z,e1]at G;cases G
  refine⟨_,rfl,x,Z.p,l,_,rfl,ex,L.pc,L.p1,(show 3<1000 by decide),?_⟩;have SH:=D.trans S3;refine⟨_,rfl,J.p,Z.p,dx,_,_,rfl,(by rw[c7 (nx M)];exact SH _ _ M),L.pc,L.p2,rfl,_,rfl,x,Z.p,l,_,rfl,a_,L.pc,L.p2,(show 3<1000 by decide),?_⟩;refine⟨_,rfl,J.p,Z.p,dx,_,_,rfl,(by rw[c7 (nx M),c7 (nx M)];exact SH _ _ M),L.pc,L.p3,rfl,_,rfl,x,Z.p,l,_,rfl,a_,L.pc,L.p3,(show 3<1000 by decide),?_⟩;rw[iV,iV];refine⟨_,rfl,q ⟨x,p,a⟩ _ ⟨hx,e_ D G,λc W=>e_ D (nw c W),nd⟩ (λb u eb=>by rw[c7 (nx eb)];exact SH _ _ eb) ⟨⟨l,a_⟩,by rw[c7 aj];exact X,Pd.mapM (λc W y r=>r.kt (Kt.ins ex L.ok.kp) (c7 λz=>?_)) Y⟩⟩;have:=nw c W;rw[z,e1]at this;cases this
end
noncomputable def Xo:List V->List V->List V
 |[x],[a,b,c]=>[x,a,b,c]
 |_,_=>[]
noncomputable def gL:List Value->List Value->List Value
 |[x],[a,b,c]=>[x,a,b,c]
 |_,_=>[]
section
variable{P:ZE}{w:ZH}{K:Zs}{mg:Y1}{base:ZN}{Z:LC}
structure zy(n:Ln):Prop where
 p1:2<=n.most
 p2:n.most<=16
 r1:5<=n.room
 r2:n.room<=12
 kd:∀p∈n.pg,∀c∈p.cs,tO c.nm c.fi
structure ym(H:Hp)(k:LA):Prop where
 o:∀b∈k.own,H b=none
 l:∀b∈k.ls,H b=none
def ym.back(s:di H a)(n:ym a k):ym H k:=⟨λb m=>e_ s (n.o b m),λb m=>e_ s (n.l b m)⟩
inductive Oq(Z:LC)(vs:List V)(H:Hp)(Q:VK)(E:XK):Prop
 |mk (k:LA) (n:Ln):vs=[.ref k.a]->eE Z H k n->k.cs.length<=900->n.pg.length<=900->zy n->(∀k' H',ym H k'->k'.cs.length=k.cs.length->di H H'->eE Z H' k' n->Q (.ref k'.a) H')->Oq Z vs H Q E
def Uy:du ["self","other"] ["self"] (b_ (lM 21)):=by ext
theorem S8{a:List PA}{s:PA}(h:s∈a):s.cs.length<=(a.flatMap (·.cs)).length:=by
 induction a with
 |nil=>cases h
 | cons q a b=>
   rw[aaA,aas];rcases aai.mp h with rfl|h
   ·omega
   ·have:=b h;omega
theorem O3:∀{c d:List PA}{e:List Pg},Pd (iZ Z H) c e->Pd (iZ Z f) d e->(d.flatMap (·.cs)).length=(c.flatMap (·.cs)).length
 |_,_,_,.nil,.nil=>rfl
 | _,_,_,.cons a r,.cons b t=>by rw[aaA,aaA,aas,aas,O3 r t,a.cs.len,b.cs.len]
structure Ce(H:Hp)(ps:List PA):Prop where
 nw:∀s∈ps,Ga H s
 n1:(ps.map (·.p)).Nodup
 n2:(ps.map (·.l)).Nodup
 n3:(ps.flatMap (·.cs)).Nodup
def Ce.snoc(h:Ce p l)(C:Pd (iZ Z i) l B)(v:di p i)(n:Ga i s):Ce p (l++[s]):=by
 have f:∀q∈l,∃m,iZ Z i q m:=λq a=>by obtain⟨j,o⟩:=aax.mp a;obtain⟨m,_,r⟩:=C.at o;exact⟨m,r⟩
 refine⟨λq a=>?_,?_,?_,?_⟩
 ·rcases aak.mp a with a|a
  ·exact h.nw q a
  ·cases aam.mp a;exact⟨e_ v n.p,e_ v n.l,λc x=>e_ v (n.cs c x),n.nd⟩
 ·rw[aaw];refine aa9.mpr ⟨h.n1,by simp,λb g d hd=>?_⟩;obtain⟨q,a,rfl⟩:=aap.mp g;obtain⟨m,r⟩:=f q a;obtain⟨D,e⟩:=r.ob;cases aam.mp hd;exact dg e n.p
 ·rw[aaw];refine aa9.mpr ⟨h.n2,by simp,λb g d hd=>?_⟩;obtain⟨q,a,rfl⟩:=aap.mp g;obtain⟨m,r⟩:=f q a;cases aam.mp hd;exact dg r.ls n.l
 ·rw[aaU,aaA,List.flatMap_nil,aaQ];refine aa9.mpr ⟨h.n3,n.nd,λb g d hd=>?_⟩;obtain⟨q,a,z⟩:=aaM.mp g;obtain⟨m,r⟩:=f q a;obtain⟨j,o⟩:=aax.mp z;obtain⟨y,_,A⟩:=r.cs.at o;obtain⟨_,_,_,_,e,_⟩:=A.ex;exact dg e (n.cs d hd)
def Ur(F:ir K "twin" "Lane.twin" (lM 21) f fd)(L:LZ K mg Z)(MkL:Mk K Z.l fI)(GI:dm P w K mg base dU 3 fI fdI ["self","pages","room","over"] (JS Z))(kbL:k_ K fdI ["self","pages","room","over"] ["pages","room","over"] gL Xo)(MP:MD K Z.p "twin" "Page.twin" (gM 3) ["self"] fP fdP)(GP:dm P w K mg base dU 9 fP fdP ["self"] (Pk Z)):dm P w K mg base dU 10 f fd ["self"] (Oq Z):=by
 refine F.ok Uy (by ext) λad A ae s H vs Q E hr h=>?_;obtain⟨k,n,rfl,W,kc,pl,sz,q⟩:=h;have am:eZ 4 _:=hr.mono (by decide);refine⟨_,(bK (jj 1 Uy.nd (qj (E:=E0) MkL GI am rfl L.lmg kbL dR (jZ (dq (pv 0) rfl) (jZ (dq (pv 0) rfl) (jZ (dq (pv 0) rfl) wI))))) (bK (dY (pv 1) (jb (g:=eN 0) (own:=["page"]) (js:=[]) (N':=["page"]) (dX.of (osc:=b_ (lM 21)) (N:=["self","other"]) rfl rfl (by ext)) rfl (h_ (dq (pv 0) (by rfl))) (λ_ _ _ _ _=>(fZ (i:=0) (show List.Nodup (["page"]:Y2) by ext) rfl (.inl rfl) (.inr rfl))) (λ_ _ _ _ _=>gF) (λ_ _ _ _ _=>gb (E:=E0) (pv 0) L.pc MP.M GP hr MP.b .nil dR)) rfl) (bK (dY (pv 1) (dq (pv 0) rfl) rfl) (bK (dY (pv 1) (dq (pv 0) rfl) rfl) (bK (dY (pv 1) (dq (pv 0) rfl) rfl) (bK (dY (pv 1) (dq (pv 0) rfl) rfl) (bK (dY (pv 1) (dq (pv 0) rfl) rfl) (bK (dY (pv 1) (dq (pv 0) rfl) rfl) (bK (dY (pv 1) (dq (pv 0) rfl) rfl) (bK (dY (pv 1) (dq (pv 0) rfl) rfl) (d8 (dw (pv 1))))))))))))),?_⟩;obtain⟨C,e⟩:=W.ob;refine⟨_,rfl,k.a,Z.l,C,_,_,rfl,e,L.lc,L.l1,rfl,_,rfl,k.a,Z.l,C,_,_,rfl,e,L.lc,L.l2,rfl,_,rfl,k.a,Z.l,C,_,_,rfl,e,L.lc,L.l3,rfl,λx af hx ag aq=>?_⟩;refine⟨x,af,n.most,n.room,n.over,rfl,a_,sz.p1,sz.p2,sz.r1,sz.r2,λk0 T ah _ ai k1 kf _=>⟨rfl,?_⟩⟩;have J:di H T:=gY hx ag k1;obtain⟨a,e1⟩:=ai.ob;rw[ah]at e1;have au:=W.pg.len;refine⟨_,rfl,k.a,Z.l,C,_,_,rfl,J _ _ e,L.lc,L.l4,rfl,k.lp,rfl,⟨_,fj.of (J _ _ W.ls)⟩,?_⟩;refine iY (xs:=k.ps.map λs=>V.ref s.p) (λi ys I H'=>(∃v,I=[v])/\di T H'/\∃d:List PA,(ys=d.map λs=>V.ref s.p)/\Pd (iZ Z H') d (n.pg.take i)/\Ce T d) (by rw[aad];exact aag (show k.ps.length<=900 by omega) (by decide)) ⟨⟨none,rfl⟩,di.refl _,[],rfl,.nil,⟨(λc h=>by cases h),abe,abe,abe⟩⟩ (λi ys I H' _⟨_,e,_⟩=>fj.of (e _ _ (J _ _ W.ls))) ?_ ?_
 ·rintro i y ys I X hy ac⟨⟨v,rfl⟩,Y,d,rfl,M,G⟩;rw[aao]at hy;obtain⟨sp,U,rfl⟩:=abC.mp hy;obtain⟨mp,ab,rp⟩:=W.pg.at U;obtain⟨dp,ep⟩:=rp.ob;have S2:=J.trans Y;have mm:=aaj ab;intro N hN;refine⟨_,rfl,sp.p,dp,_,rfl,S2 _ _ ep,rfl,sp,mp,rfl,rp.same S2,aag (S8 (aaj U)) kc,sz.kd mp mm,λs' H3 aj s3 ak=>hN _ _ _ (by rw[aas,ac];rfl) ⟨⟨_,rfl⟩,Y.trans s3,d++[s'],by rw[aaw];rfl,?_,G.snoc M Y aj⟩⟩;rw[aaT,ab];exact Pd.app (.cons ak .nil) (M.map λ_ _ r=>r.same s3)
 ·rintro ys I X ac⟨⟨v,rfl⟩,Y,d,rfl,M,G⟩;have M:Pd (iZ Z X) d n.pg:=by have:n.pg.take (k.ps.map λs=>V.ref s.p).length=n.pg:=abd (by rw[aad];omega);rw[this]at M;exact M
  have al:=M.len;refine⟨by rw[aad];exact aag (show d.length<=900 by omega) (by decide),λp hp=>?_⟩;have s3:=di.new (o:=.lst (d.map λs=>V.ref s.p)) hp;have S3:di T (upd X p (.lst (d.map λs=>V.ref s.p))):=Y.trans s3;have aa:(upd X p (.lst (d.map λs=>V.ref s.p))) p=some (.lst (d.map λs=>V.ref s.p)):=a_;have R:Pd (iZ Z (upd X p (.lst (d.map λs=>V.ref s.p)))) d n.pg:=M.map λ_ _ r=>r.same s3;have S:T p=none:=e_ Y hp;have ao:∀s∈d,p≠s.l:=λs B=>by obtain⟨j,hj⟩:=aax.mp B;obtain⟨m,_,r⟩:=M.at hj;exact(dg r.ls hp).symm
  generalize upd X p (.lst (d.map λs=>V.ref s.p))=H3 at S3 aa R|-;have ex:=S3 _ _ e1;have nx:∀{b u},H b=some u->b≠x:=λe=>dg e hx;have l:k.a≠x:=nx e;have ap:p≠x:=λz=>by rw[z,e1]at S;cases S
  have SH:=J.trans S3;have O:=SH _ _ e;refine⟨_,rfl,x,Z.l,a,_,rfl,ex,L.lc,L.l4,(show 12<1000 by decide),?_⟩;refine⟨_,rfl,k.a,Z.l,C,_,_,rfl,(c7 l).trans O,L.lc,L.l5,rfl,_,rfl,x,Z.l,a,_,rfl,a_,L.lc,L.l5,(show 12<1000 by decide),?_⟩;rw[iV];refine⟨_,rfl,k.a,Z.l,C,_,_,rfl,(c7 l).trans O,L.lc,L.l6,rfl,_,rfl,x,Z.l,a,_,rfl,a_,L.lc,L.l6,(show 12<1000 by decide),?_⟩;rw[iV];refine⟨_,rfl,k.a,Z.l,C,_,_,rfl,(c7 l).trans O,L.lc,L.l7,rfl,_,rfl,x,Z.l,a,_,rfl,a_,L.lc,L.l7,(show 12<1000 by decide),?_⟩;rw[iV];refine⟨_,rfl,k.a,Z.l,C,_,_,rfl,(c7 l).trans O,L.lc,L.l8,rfl,_,rfl,x,Z.l,a,_,rfl,a_,L.lc,L.l8,(show 12<1000 by decide),?_⟩;rw[iV];refine⟨_,rfl,k.a,Z.l,C,_,_,rfl,(c7 l).trans O,L.lc,L.l9,rfl,_,rfl,x,Z.l,a,_,rfl,a_,L.lc,L.l9,(show 12<1000 by decide),?_⟩;rw[iV];refine⟨_,rfl,k.a,Z.l,C,_,_,rfl,(c7 l).trans O,L.lc,L.l10,rfl,_,rfl,x,Z.l,a,_,rfl,a_,L.lc,L.l10,(show 12<1000 by decide),?_⟩;rw[iV];refine⟨_,rfl,k.a,Z.l,C,_,_,rfl,(c7 l).trans O,L.lc,L.l11,rfl,_,rfl,x,Z.l,a,_,rfl,a_,L.lc,L.l11,(show 12<1000 by decide),?_⟩;rw[iV];refine⟨_,rfl,k.a,Z.l,C,_,_,rfl,(c7 l).trans O,L.lc,L.l12,rfl,_,rfl,x,Z.l,a,_,rfl,a_,L.lc,L.l12,(show 12<1000 by decide),?_⟩;rw[iV];have x1:∀{b},T b=none->b≠x:=λh z=>by rw[z,e1]at h;cases h
  refine⟨_,rfl,q ⟨x,p,d⟩ _ ⟨λb D=>?_,λb D=>?_⟩ (O3 W.pg R) (λb u eb=>by rw[c7 (nx eb)];exact SH _ _ eb) ⟨⟨a,a_⟩,by show upd _ x _ p=_;rw[c7 ap];exact aa,Pd.mapM (λs B y r=>?_) R,G.n1,?_,G.n3⟩⟩
  ·rcases aai.mp D with rfl|D
   ·exact hx
   ·rcases aak.mp D with D|D
    ·obtain⟨s,B,rfl⟩:=aap.mp D;exact e_ J (G.nw s B).p
    ·obtain⟨s,B,U⟩:=aaM.mp D;exact e_ J ((G.nw s B).cs b U)
  ·rcases aai.mp D with rfl|D
   ·exact e_ J S
   ·obtain⟨s,B,rfl⟩:=aap.mp D;exact e_ J (G.nw s B).l
  ·exact r.kt (Kt.ins ex L.ok.kl) (c7 (x1 (G.nw s B).p)) (c7 (x1 (G.nw s B).l)) λc U=>c7 (x1 ((G.nw s B).cs c U))
  ·show(p::d.map (·.l)).Nodup;refine aaD.mpr ⟨λm=>?_,G.n2⟩;obtain⟨s,B,e⟩:=aap.mp m;exact ao s B e.symm
end
abbrev tM(j:Nat):Stmt:=inClass (top 89) j
structure TZ(K:Zs)(mg:Y1)(C:Zl):Prop where
 c:vh K C
 mg:mg "Track"=some (.ref C)
 t1:g8 K C "written"
 t2:g8 K C "clock"
 t3:g8 K C "test"
noncomputable def Dk(l:Zl)(a:Int)(t:V):List (Str×V):=[("written",.ref l),("clock",.int a),("test",t)]
structure Tk where
 ln:Ln
 ck:Int
 ts:PyData
structure TA where
 a:Addr
 k:LA
structure lW(Z:LC)(C:Zl)(K:Zs)(H:Hp)(s:TA)(t:Tk):Prop where
 ob:∃dx v,H s.a=some (.ins C dx (Dk s.k.a t.ck v))/\Rep K H v t.ts
 ln:eE Z H s.k t.ln
structure qw(H:Hp)(s:TA):Prop where
 a:H s.a=none
 k:ym H s.k
section
variable{P:ZE}{w:ZH}{K:Zs}{mg:Y1}{base:ZN}{Z:LC}{C:Zl}
noncomputable def vP:PyData:=.tuple [.str "all"]
inductive JR(Z:LC)(C:Zl)(K:Zs)(vs:List V)(H:Hp)(Q:VK)(E:XK):Prop
 |mk (o dx l:Zl):vs=[.ref o,.ref l]->H o=some (.ins C dx [])->(∀v H',H' o=some (.ins C dx (Dk l 0 v))->Rep K H' v vP->(∀b u,H b=some u->b≠o->H' b=some u)->Q .non H')->JR Z C K vs H Q E
def YD:du ["self","written"] ["self","written"] (b_ (tM 0)):=by ext
def M_(F:ir K "__init__" "Track.__init__" (tM 0) f i)(TZ:TZ K mg C):dm P w K mg base dU 1 f i ["self","written"] (JR Z C K):=by
 refine F.ok YD (by ext) λj A c s H vs Q E n h=>?_;obtain⟨o,g,l,rfl,m,k⟩:=h;refine⟨_,(bK (dY (pv 0) (pv 1) rfl) (bK (dY (pv 0) dh rfl) (d8 (dY (pv 0) (gw (aK dC cZ)) rfl)))),?_⟩;refine⟨_,rfl,_,rfl,o,C,g,[],rfl,m,TZ.c,TZ.t1,(show 0<1000 by decide),?_⟩;refine⟨_,rfl,o,C,g,_,rfl,a_,TZ.c,TZ.t2,(show 1<1000 by decide),?_⟩;rw[iV];refine⟨(by ext),λt a=>?_⟩;have not:o≠t:=λz=>by rw[<-z,a_]at a;cases a
 refine⟨_,rfl,o,C,g,[("written",.ref l),("clock",.int 0)],rfl,(by rw[c7 not];exact a_),TZ.c,TZ.t3,(show 2<1000 by decide),?_⟩;refine k (.ref t) _ a_ (.tup (gf.of (by rw[c7 not.symm];exact a_)) (.cons (.str _) .nil)) λb u e d=>?_;have nt:b≠t:=λz=>by rw[<-z,c7 d,e]at a;cases a
 rw[c7 d,c7 nt,c7 d];exact e
inductive Rj(Z:LC)(C:Zl)(K:Zs)(vs:List V)(H:Hp)(Q:VK)(E:XK):Prop
 |mk (s:TA) (t:Tk):vs=[.ref s.a]->lW Z C K H s t->s.k.cs.length<=900->t.ln.pg.length<=900->zy t.ln->(∀s' H',qw H s'->s'.k.cs.length=s.k.cs.length->di H H'->lW Z C K H' s' t->Q (.ref s'.a) H')->Rj Z C K vs H Q E
def VF:du ["self","other"] ["self"] (b_ (tM 2)):=by ext
def Vh(F:ir K "twin" "Track.twin" (tM 2) f W)(L:LZ K mg Z)(TZ:TZ K mg C)(nC:Z.l≠C/\Z.p≠C/\Z.c≠C/\Z.k≠C)(J:Mk K C I)(FI:ir K "__init__" "Track.__init__" (tM 0) I c)(bI:Binds K c ["self","written"] [])(X:MD K Z.l "twin" "Lane.twin" (lM 21) ["self"] U j)(GL:dm P w K mg base dU 10 U j ["self"] (Oq Z)):dm P w K mg base dU 11 f W ["self"] (Rj Z C K):=by
 have GI:dm P w K mg base dU 1 I c ["self","written"] (JR Z C K):=M_ FI TZ;refine F.ok VF (by ext) λm A n s H vs Q E M h=>?_;obtain⟨i,t,rfl,tk,kc,pl,sz,q⟩:=h;have z:eZ 2 _:=M.mono (by decide);refine⟨_,(bK (jj 1 VF.nd (lL (E:=E0) J GI z rfl TZ.mg bI .nil dR (aK (gb (E:=E0) (dq (pv 0) rfl) L.lc X.M GL M X.b .nil dR) cZ))) (bK (dY (pv 1) (dq (pv 0) rfl) rfl) (bK (dY (pv 1) (dq (pv 0) rfl) rfl) (d8 (dw (pv 1)))))),?_⟩;obtain⟨⟨G,v,e,rv⟩,T⟩:=tk;obtain⟨dl,el⟩:=T.ob;refine⟨_,rfl,i.a,C,G,_,_,rfl,e,TZ.c,TZ.t1,rfl,i.k.a,dl,_,rfl,el,rfl,i.k,t.ln,rfl,T,kc,pl,sz,λl N Y c1 O o=>?_⟩;refineλx a p r aa=>?_;refine⟨x,a,l.a,rfl,a_,λv2 y e2 r2 k2=>⟨rfl,?_⟩⟩;have R:di N y:=gY p r k2;have B:=O.trans R;refine⟨_,rfl,i.a,C,G,_,_,rfl,B _ _ e,TZ.c,TZ.t2,rfl,_,rfl,x,C,a,_,rfl,e2,TZ.c,TZ.t2,(show 3<1000 by decide),?_⟩;have g:H x=none:=e_ O p;have S:∀{b u},H b=some u->b≠x:=λe=>dg e g;refine⟨_,rfl,i.a,C,G,_,_,rfl,(by rw[c7 (S e)];exact B _ _ e),TZ.c,TZ.t3,rfl,_,rfl,x,C,a,_,rfl,a_,TZ.c,TZ.t3,(show 3<1000 by decide),?_⟩;rw[iV];have up:∀b u,H b=some u->upd y x (.ins C a (Dk l.a t.ck v)) b=some u:=λb u d=>by rw[c7 (S d)];exact B _ _ d
 have D:∀b u,N b=some u->upd y x (.ins C a (Dk l.a t.ck v)) b=some u:=λb u d=>by rw[c7 (dg d p)];exact R _ _ d
 exact⟨_,rfl,q ⟨x,l⟩ _ ⟨g,Y⟩ c1 up ⟨⟨a,v,a_,rv.same up⟩,o.same D⟩⟩
end
abbrev sM(j:Nat):Stmt:=inClass (top 90) j
structure SZ(K:Zs)(mg:Y1)(C:Zl):Prop where
 c:vh K C
 dict:mg "dict"=none
 mg:mg "Stand"=some (.ref C)
 s1:g8 K C "pages"
 s2:g8 K C "room"
 s3:g8 K C "known"
 s4:g8 K C "tracks"
 s5:g8 K C "counters"
 s6:g8 K C "still"
 s7:g8 K C "halting"
noncomputable def Be(p r:Int)(dk a c:Zl)(b:Bool)(h:V):List (Str×V):=[("pages",.int p),("room",.int r),("known",.ref dk),("tracks",.ref a),("counters",.ref c),("still",.bl b),("halting",h)]
section
variable{P:ZE}{w:ZH}{K:Zs}{mg:Y1}{base:ZN}{Z:LC}{C S:Zl}
structure Z2(H:Hp)(dk dt dc:Zl):Prop where
 k:H dk=none
 t:H dt=none
 c:H dc=none
inductive Ky(S:Zl)(vs:List V)(H:Hp)(Q:VK)(E:XK):Prop
 |mk (o dx:Zl) (p r:Int):vs=[.ref o,.int p,.int r]->H o=some (.ins S dx [])->2<=p->p<=16->5<=r->r<=12->(∀dk dt dc H',Z2 H dk dt dc->H' o=some (.ins S dx (Be p r dk dt dc false .non))->H' dk=some (.dK [])->H' dt=some (.dK [])->H' dc=some (.dK [])->dk≠dt->dk≠dc->dt≠dc->(∀b u,H b=some u->b≠o->H' b=some u)->Q .non H')->Ky S vs H Q E
def Xu:du ["self","pages","room"] ["self","pages","room"] (b_ (sM 0)):=by ext
def Ut(F:ir K "__init__" "Stand.__init__" (sM 0) f L)(SZ:SZ K mg S)(M:Gx mg)(N:gq K mg "need_pages" (top 52) ["pages"] I x)(O:gq K mg "need_room" (top 53) ["room"] J y):dm P w K mg base dU 2 f L ["self","pages","room"] (Ky S):=by
 have T:dm P w K mg base dU 1 I x ["pages"] JN:=Nu N.F M;have U:dm P w K mg base dU 1 J y ["room"] Ly:=MN O.F M;refine F.ok Xu (by ext) λR A D s H vs Q E G h=>?_;obtain⟨o,j,p,r,rfl,W,X,Y,r1,r2,q⟩:=h;refine⟨_,(bK (fc (iJ N T G (aK (pv 1) cZ))) (bK (fc (iJ O U G (aK (pv 2) cZ))) (bK (dY (pv 0) (pv 1) rfl) (bK (dY (pv 0) (pv 2) rfl) (bK (dY (pv 0) rR rfl) (bK (dY (pv 0) rR rfl) (bK (dY (pv 0) rR rfl) (bK (dY (pv 0) lD rfl) (d8 (dY (pv 0) l_ rfl)))))))))),?_⟩;refine⟨_,rfl,p,rfl,X,Y,?_⟩;refine⟨_,rfl,r,rfl,r1,r2,?_⟩;refine⟨_,rfl,_,rfl,o,S,j,[],rfl,W,SZ.c,SZ.s1,(show 0<1000 by decide),?_⟩;refine⟨_,rfl,_,rfl,o,S,j,_,rfl,a_,SZ.c,SZ.s2,(show 1<1000 by decide),?_⟩;rw[iV];refineλdk hk=>?_;have d:o≠dk:=dg a_ hk;refine⟨_,rfl,o,S,j,[("pages",.int p),("room",.int r)],rfl,(by rw[c7 d];exact a_),SZ.c,SZ.s3,(show 2<1000 by decide),?_⟩;refineλc m=>?_;have nt:o≠c:=dg a_ m;refine⟨_,rfl,o,S,j,[("pages",.int p),("room",.int r),("known",.ref dk)],rfl,(by rw[c7 nt];exact a_),SZ.c,SZ.s4,(show 3<1000 by decide),?_⟩;refineλz l=>?_;have n:o≠z:=dg a_ l;refine⟨_,rfl,o,S,j,[("pages",.int p),("room",.int r),("known",.ref dk),("tracks",.ref c)],rfl,(by rw[c7 n];exact a_),SZ.c,SZ.s5,(show 4<1000 by decide),?_⟩;refine⟨_,rfl,o,S,j,_,rfl,a_,SZ.c,SZ.s6,(show 5<1000 by decide),?_⟩;rw[iV];refine⟨_,rfl,o,S,j,_,rfl,a_,SZ.c,SZ.s7,(show 6<1000 by decide),?_⟩;rw[iV];have v:H dk=none:=by rw[c7 d.symm]at hk;exact hk
 have a:dk≠c:=dg (show upd (upd _ dk _) o _ dk=some _ by rw[c7 d.symm];exact a_) m;rw[c7 nt.symm,c7 a.symm,c7 nt.symm]at m;have g:dk≠z:=dg (show upd (upd (upd (upd _ dk _) o _) c _) o _ dk=some _ by rw[c7 d.symm,c7 a,c7 d.symm];exact a_) l;have i:c≠z:=dg (show upd (upd _ c _) o _ c=some _ by rw[c7 nt.symm];exact a_) l;rw[c7 n.symm,c7 i.symm,c7 n.symm,c7 g.symm,c7 n.symm]at l;refine q dk c z _ ⟨v,m,l⟩ a_ ?_ ?_ ?_ a g i λb u e B=>?_
 ·rw[c7 d.symm,c7 g,c7 d.symm,c7 a,c7 d.symm];exact a_
 ·rw[c7 nt.symm,c7 i,c7 nt.symm];exact a_
 ·rw[c7 n.symm];exact a_
 ·rw[c7 B,c7 (dg e l),c7 B,c7 (dg e m),c7 B,c7 (dg e v),c7 B];exact e
end
noncomputable def S9(S:Zl)(o:HO):Prop:=(∃a,o=.dK a\/∃b,o=.frz b (.dK a))\/∃c fs,o=.ins S c fs
noncomputable def gQ(S:Zl)(H a:Hp):Prop:=∀b u,H b=some u->¬S9 S u->a b=some u
structure xu(Z:LC)(C S:Zl):Prop where
 k:Z.k≠S
 c:Z.c≠S
 p:Z.p≠S
 l:Z.l≠S
 t:C≠S
section
variable{K:Zs}{Z:LC}{C S:Zl}{H H' H'':Hp}
def Ag:¬S9 S (.tup a):=by rintro(⟨_,h|⟨_,h⟩⟩|⟨_,_,h⟩)<;>cases h
def vJ:¬S9 S (.lst a):=by rintro(⟨_,h|⟨_,h⟩⟩|⟨_,_,h⟩)<;>cases h
def rQ(ne:D≠S):¬S9 S (.ins D a fs):=by
 rintro(⟨_,h|⟨_,h⟩⟩|⟨_,_,h⟩)
 ·cases h
 ·cases h
 ·cases h;exact ne rfl
def di.sd(s:di H H'):gQ S H H':=λb u e _=>s b u e
def gQ.trans(a:gQ S H H')(b:gQ S H' H''):gQ S H H'':=λc u e n=>b c u (a c u e n) n
def gQ.put(e:H p=some o)(d:S9 S o):gQ S H (upd H p a):=λb u h n=>by rw[c7 (λz=>by subst z;rw[e]at h;cases h;exact n d)];exact h
def gQ.kt(ne:Z.k≠S)(s:gQ S H H'):Kt Z H H':=⟨λb a e=>s _ _ e Ag,λb c fs e=>s _ _ e (rQ ne)⟩
def gQ.rep(s:gQ S H H')(h:Rep K H v d):Rep K H' v d:=by
 refine h.map (λa b z=>?_) (λa b z=>?_)
 ·rcases z with(z|⟨o,z⟩)|z
  ·exact .inl (.inl (s _ _ z Ag))
  ·exact .inl (.inr ⟨o,s _ _ z (by rintro(⟨_,h|⟨_,h⟩⟩|⟨_,_,h⟩)<;>cases h)⟩)
  ·exact .inr z
 ·rcases z with(z|⟨o,z⟩)|z
  ·exact .inl (.inl (s _ _ z vJ))
  ·exact .inl (.inr ⟨o,s _ _ z (by rintro(⟨_,h|⟨_,h⟩⟩|⟨_,_,h⟩)<;>cases h)⟩)
  ·exact .inr z
def iU.sd(h:iU Z H c m)(ne:xu Z C S)(s:gQ S H H'):iU Z H' c m:=by obtain⟨d,k,a,t,b,_⟩:=h.ex;exact h.kt (s.kt ne.k) (by rw[b];exact s _ _ b (rQ ne.c))
def iZ.sd(h:iZ Z H q m)(ne:xu Z C S)(s:gQ S H H'):iZ Z H' q m:=by obtain⟨a,b⟩:=h.ob;exact⟨⟨a,s _ _ b (rQ ne.p)⟩,s _ _ h.ls vJ,h.cs.map λ_ _ r=>r.sd ne s⟩
def eE.sd(h:eE Z H k n)(ne:xu Z C S)(s:gQ S H H'):eE Z H' k n:=by obtain⟨a,b⟩:=h.ob;exact⟨⟨a,s _ _ b (rQ ne.l)⟩,s _ _ h.ls vJ,h.pg.map λ_ _ r=>r.sd ne s,h.n1,h.n2,h.n3⟩
def lW.sd(h:lW Z C K H q t)(ne:xu Z C S)(s:gQ S H H'):lW Z C K H' q t:=by obtain⟨a,v,e,r⟩:=h.ob;exact⟨⟨a,v,s _ _ e (rQ ne.t),s.rep r⟩,h.ln.sd ne s⟩
def lW.same(h:lW Z C K H q t)(s:di H H'):lW Z C K H' q t:=by obtain⟨a,v,e,r⟩:=h.ob;exact⟨⟨a,v,s _ _ e,r.same s⟩,h.ln.same s⟩
mutual
noncomputable def pP:PyData->Bool
 |.tuple a=>q_ a
 |.list _=>false
 |_=>true
noncomputable def q_:List PyData->Bool
 |[]=>true
 |d::ds=>pP d&&q_ ds
end
mutual
theorem m7 (f:∀a c,gf K H a c->gf K H' a c):∀{v:V}{d:PyData},Rep K H v d->pP d=true->Rep K H' v d
 |_,_,.non,_=>.non
 |_,_,.bl b,_=>.bl b
 |_,_,.int i,_=>.int i
 |_,_,.str x,_=>.str x
 |_,_,.tup h r,n=>.tup (f _ _ h) (uL f r (by simpa[pP]using n))
 |_,_,.lst h r,n=>by simp[pP]at n
theorem uL (f:∀a b,gf K H a b->gf K H' a b):∀{v:List V}{d:List PyData},gn K H v d->q_ d=true->gn K H' v d
 |_,_,.nil,_=>.nil
 | _,_,.cons h r,n=>by simp[q_]at n;exact .cons (m7 f h n.1) (uL f r n.2)
end
noncomputable def TA.all(t:TA):List Addr:=t.a::(t.k.own++t.k.ls)
noncomputable def Apart(t u:TA):Prop:=∀b∈t.all,b∉u.all
def Apart.symm(h:Apart t u):Apart u t:=λb m z=>h b z m
theorem IK:∀{ts:List TA},ts.Pairwise Apart->∀(j k:Nat)(u v:TA),j≠k->ts[j]?=some u->ts[k]?=some v->Apart u v
 |[],_,_,_,_,_,_,h,_=>by simp at h
 |t::ts,p,0,0,_,_,ne,_,_=>absurd rfl ne
 | t::ts,p,0,k+1,u,v,ne,h1,h2=>by simp at h1;subst h1;exact(acZ.mp p).1 v (aaj (by simpa using h2))
 | t::ts,p,j+1,0,u,v,ne,h1,h2=>by simp at h2;subst h2;exact Apart.symm ((acZ.mp p).1 u (aaj (by simpa using h1)))
 |t::ts,p,j+1,k+1,u,v,ne,h1,h2=>IK (acZ.mp p).2 j k u v (λe=>ne (by rw[e])) (by simpa using h1) (by simpa using h2)
def qw.all(n:qw H t):∀b∈t.all,H b=none:=λb m=>by
 rcases aai.mp m with rfl|m
 ·exact n.a
 ·rcases aak.mp m with m|m
  ·exact n.k.o b m
  ·exact n.k.l b m
def qw.back(s:di H H')(n:qw H' t):qw H t:=⟨e_ s n.a,n.k.back s⟩
end
structure Sd where
 pg:Int
 rm:Int
 kn:List (Str×List ji)
 tr:List (Str×Tk)
 still:Bool
 halt:PyData
structure SA where
 a:Addr
 dk:Addr
 dt:Addr
 dc:Addr
 ks:List Addr
 ts:List TA
noncomputable def El(b:YI)(c:List (Str×List ji)):List (Key×V):=List.zipWith (λa p=>(Sum.inr p.1,V.ref a)) b c
noncomputable def lN(ts:List TA)(tr:List (Str×Tk)):List (Key×V):=List.zipWith (λt p=>(Sum.inr p.1,V.ref t.a)) ts tr
structure iR(Z:LC)(C S:Zl)(K:Zs)(H:Hp)(s:SA)(d:Sd):Prop where
 ob:∃dx v,H s.a=some (.ins S dx (Be d.pg d.rm s.dk s.dt s.dc d.still v))/\Rep K H v d.halt
 ek:H s.dk=some (.dK (El s.ks d.kn))
 kn:Pd (λa p=>∃t,gZ Z.k H a p.1 t p.2) s.ks d.kn
 et:H s.dt=some (.dK (lN s.ts d.tr))
 tr:Pd (λt p=>lW Z C K H t p.2) s.ts d.tr
 ec:H s.dc=some (.dK [])
 nm:(d.tr.map (·.1)).Nodup
 nk:(d.kn.map (·.1)).Nodup
 dj:∀(j k:Nat)(u v:TA),j≠k->s.ts[j]?=some u->s.ts[k]?=some v->Apart u v
 nh:pP d.halt=true
 nt:∀p∈d.tr,pP p.2.ts=true
 n1:s.dk≠s.dt
 n2:s.dk≠s.dc
 n3:s.dt≠s.dc
structure Tn(d:Sd):Prop where
 p1:2<=d.pg
 p2:d.pg<=16
 r1:5<=d.rm
 r2:d.rm<=12
 tl:d.tr.length<=6
 ln:∀p∈d.tr,zy p.2.ln/\p.2.ln.pg.length<=900
def vH(h:ts.length=tr.length):(lN ts tr).length=tr.length:=by simp[lN,h]
theorem Gr(h:ts.length=tr.length):(lN ts tr).map (·.1)=tr.map λp=>Sum.inr p.1:=by
 induction ts generalizing tr with
 | nil=>
   cases tr with
   |nil=>rfl
   |cons _ _=>simp at h
 | cons t ts ih=>
   cases tr with
   |nil=>simp at h
   | cons p tr=>have:=ih (tr:=tr) (by simpa using h);unfold lN at this|-;rw[abQ,aat,aat,this]
def M8(h:ts.length=tr.length):lN (ts++a) (tr++b)=lN ts tr++lN a b:=by unfold lN;rw[ac0 h]
theorem Fj{ts:List TA}{tr:List (Str×Tk)}{i:Nat}{x:Key×V}(h:(lN ts tr)[i]?=some x):∃t p,ts[i]?=some t/\tr[i]?=some p/\x=(Sum.inr p.1,V.ref t.a):=by
 unfold lN at h;rw[List.getElem?_zipWith]at h;cases h1:ts[i]? with
 |none=>rw[h1]at h;cases h
 | some t=>
   cases h2:tr[i]? with
   |none=>rw[h1,h2]at h;cases h
   | some p=>rw[h1,h2]at h;cases h;exact⟨t,p,rfl,rfl,rfl⟩
def O7:PE X e (λ_ _ _=>False):=λ_ _ _ _ _ _ h=>h.elim
def Vu:List.Nodup (["name","track"]:Y2):=by ext
def Tc:List.Nodup (["name","tally"]:Y2):=by ext
section
variable{P:ZE}{w:ZH}{K:Zs}{mg:Y1}{base:ZN}{Z:LC}{C S:Zl}
def eE.here(h:eE Z H k n):∀b∈k.own++k.ls,∃u,H b=some u:=λb m=>by
 have f:∀s∈k.ps,∃y,iZ Z H s y:=λs d=>by obtain⟨i,g⟩:=aax.mp d;obtain⟨y,_,r⟩:=h.pg.at g;exact⟨y,r⟩
 rcases aak.mp m with m|m
 ·rcases aai.mp m with rfl|m
  ·obtain⟨j,e⟩:=h.ob;exact⟨_,e⟩
  ·rcases aak.mp m with m|m
   ·obtain⟨s,d,rfl⟩:=aap.mp m;obtain⟨y,r⟩:=f s d;obtain⟨j,e⟩:=r.ob;exact⟨_,e⟩
   ·obtain⟨s,d,l⟩:=aaM.mp m;obtain⟨y,r⟩:=f s d;obtain⟨i,g⟩:=aax.mp l;obtain⟨c,_,o⟩:=r.cs.at g;obtain⟨j,k,a,t,e,_⟩:=o.ex;exact⟨_,e⟩
 ·rcases aai.mp m with rfl|m
  ·exact⟨_,h.ls⟩
  ·obtain⟨s,d,rfl⟩:=aap.mp m;obtain⟨y,r⟩:=f s d;exact⟨_,r.ls⟩
def lW.here(h:lW Z C K H s t):∀b∈s.all,∃u,H b=some u:=λb m=>by
 rcases aai.mp m with rfl|m
 ·obtain⟨a,v,e,_⟩:=h.ob;exact⟨_,e⟩
 ·exact h.ln.here b m
structure Hj(H:Hp)(s:SA):Prop where
 a:H s.a=none
 k:H s.dk=none
 t:H s.dt=none
 c:H s.dc=none
 ts:∀t∈s.ts,qw H t
inductive Oi(Z:LC)(C S:Zl)(K:Zs)(vs:List V)(H:Hp)(Q:VK)(E:XK):Prop
 |mk (s:SA) (d:Sd):vs=[.ref s.a]->iR Z C S K H s d->Tn d->(∀t∈s.ts,t.k.cs.length<=900)->(∀s' H',Hj H s'->s'.ks=s.ks->Pd (λ(t u:TA)=>t.k.cs.length=u.k.cs.length) s'.ts s.ts->di H H'->iR Z C S K H' s' d->Q (.ref s'.a) H')->Oi Z C S K vs H Q E
def Ti:du ["self","other"] ["self"] (b_ (sM 5)):=by ext
def Vo(F:ir K "twin" "Stand.twin" (sM 5) f fd)(SZ:SZ K mg S)(TZ:TZ K mg C)(ne:xu Z C S)(MkS:Mk K S fI)(bI:Binds K fdI ["self","pages","room"] [])(GI:dm P w K mg base dU 2 fI fdI ["self","pages","room"] (Ky S))(MT:MD K C "twin" "Track.twin" (tM 2) ["self"] fT fdT)(GT:dm P w K mg base dU 11 fT fdT ["self"] (Rj Z C K)):dm P w K mg base dU 12 f fd ["self"] (Oi Z C S K):=by
 refine F.ok Ti (by ext) λal A am s H vs Q E hr h=>?_;obtain⟨a,d,rfl,st,sz,cl,q⟩:=h;have aw:eZ 3 _:=hr.mono (by decide);refine⟨_,(bK (jj 1 Ti.nd (lL (E:=E0) MkS GI aw rfl SZ.mg bI .nil dR (aK (dq (pv 0) rfl) (aK (dq (pv 0) rfl) cZ)))) (bK (dY (pv 1) (jJ xF (by rfl) SZ.dict My (aK (dq (pv 0) rfl) cZ)) rfl) (bK (dY (pv 1) (yX (yF (g:=Fp K 2 (oE (eN 0) (oE (eN 1) J3))) (own:=["name","track"]) (js:=[]) (N':=["name","track"]) (dX.of (osc:=b_ (sM 5)) (N:=["self","other"]) rfl rfl (by ext)) rfl (yO (wg acP PySem.F.type_dict_items uG (dq (pv 0) (by rfl)))) (λ_ _ _ _ _=>(iy rfl (dJ (fZ (i:=0) Vu rfl (.inl rfl) (.inr rfl)) (dJ (fZ (i:=1) Vu rfl (.inl rfl) (.inr rfl)) gP)))) (λ_ _ _ _ _=>gF) (λ_ _ _ _ _=>pv 0) (λ_ _ _ _ _=>gb (E:=E0) (pv 1) TZ.c MT.M GT (hr.mono (by decide)) MT.b .nil dR))) rfl) (bK (dY (pv 1) (yX (yF (g:=Fp K 2 (oE (eN 0) (oE (eN 1) J3))) (own:=["name","tally"]) (js:=[]) (N':=["name","tally"]) (dX.of (osc:=b_ (sM 5)) (N:=["self","other"]) rfl rfl (by ext)) rfl (yO (wg acP PySem.F.type_dict_items uG (dq (pv 0) (by rfl)))) (λ_ _ _ _ _=>(iy rfl (dJ (fZ (i:=0) Tc rfl (.inl rfl) (.inr rfl)) (dJ (fZ (i:=1) Tc rfl (.inl rfl) (.inr rfl)) gP)))) (λ_ _ _ _ _=>gF) (λ_ _ _ _ _=>pv 0) (λ_ _ _ _ _=>O7))) rfl) (bK (dY (pv 1) (dq (pv 0) rfl) rfl) (bK (dY (pv 1) (dq (pv 0) rfl) rfl) (d8 (dw (pv 1))))))))),?_⟩;obtain⟨⟨dx,v,e,rv⟩,ek,kn,et,tr,ec,nm,aA,dj,nh,aB,n1,n2,n3⟩:=st;refine⟨_,rfl,a.a,S,dx,_,_,rfl,e,SZ.c,SZ.s1,rfl,_,rfl,a.a,S,dx,_,_,rfl,e,SZ.c,SZ.s2,rfl,λx B hx ao aG=>?_⟩;refine⟨x,B,d.pg,d.rm,rfl,a_,sz.p1,sz.p2,sz.r1,sz.r2,λnk nt nc H1 nd e1 k1 t1 c1 m1 m2 m3 kp=>⟨rfl,?_⟩⟩;have s1:di H H1:=gY hx ao kp;have nx:∀{b u},H b=some u->b≠x:=λc=>dg c hx;refine⟨_,rfl,a.a,S,dx,_,_,rfl,s1 _ _ e,SZ.c,SZ.s3,rfl,a.dk,_,rfl,s1 _ _ ek,λp hp=>?_⟩;have ae:x≠p:=dg e1 hp;refine⟨_,rfl,x,S,B,Be d.pg d.rm nk nt nc false .non,rfl,(by rw[c7 ae];exact e1),SZ.c,SZ.s3,(show 7<1000 by decide),?_⟩;generalize h2:upd (upd H1 p (.dK (El a.ks d.kn))) x (.ins S B (gJ "known" (.ref p) (Be d.pg d.rm nk nt nc false .non)))=H2;have s2:di H H2:=λb u c=>by rw[<-h2,c7 (nx c),c7 (dg (s1 _ _ c) hp)];exact s1 _ _ c
 have x2:H2 x=some (.ins S B (Be d.pg d.rm p nt nc false .non)):=by rw[<-h2];exact a_
 have p2:H2 p=some (.dK (El a.ks d.kn)):=by rw[<-h2,c7 ae.symm];exact a_
 have aj:H p=none:=e_ s1 hp;clear h2;refine⟨a.dt,_,s2 _ _ et,λo=>?_⟩;generalize hF:upd H2 a.dt (.frz o (.dK (lN a.ts d.tr)))=HF;have dF:HF a.dt=some (.frz o (.dK (lN a.ts d.tr))):=by rw[<-hF];exact a_
 have f2:∀b u,H2 b=some u->b≠a.dt->HF b=some u:=λb u c nb=>by rw[<-hF,c7 nb];exact c
 have sF:gQ S H2 HF:=by rw[<-hF];exact gQ.put (s2 _ _ et) (.inl ⟨_,.inl rfl⟩)
 have nF:∀{b},HF b=none->H2 b=none:=λ{b}O=>by
  rw[<-hF]at O;by_cases z:b=a.dt
  ·subst z;rw[a_]at O;cases O
  ·rw[c7 z]at O;exact O
 have eF:HF a.a=some (.ins S dx (Be d.pg d.rm a.dk a.dt a.dc d.still v)):=f2 _ _ (s2 _ _ e) (j9 e et (by intro z;cases z));refine⟨_,rfl,a.a,S,dx,_,_,rfl,eF,SZ.c,SZ.s4,rfl,⟨a.dt,o,_,rfl,dF⟩,a.dt,o,_,rfl,rfl,dF,λvw hw=>?_⟩;refine⟨vw,a.dt,o,_,rfl,a_,di.new hw _ _ dF,λJ ha=>?_⟩;generalize hV:upd HF vw (yd vw a.dt)=HV at ha|-;have sV:di HF HV:=by rw[<-hV];exact di.new hw
 have af:H2 J=none:=nF (e_ sV ha);have tl:a.ts.length=d.tr.length:=tr.len;have kl:(lN a.ts d.tr).length=d.tr.length:=vH tl;refine qt (λi M L=>∃v1 v2 I,M=[v1,v2]/\I.length=i/\L J=some (.dK (lN I (d.tr.take i)))/\Pd (λt p=>lW Z C K L t p.2) I (d.tr.take i)/\(∀b u,HV b=some u->L b=some u)/\(∀t∈I,qw HV t)/\I.Pairwise Apart/\Pd (λ(t u:TA)=>t.k.cs.length=u.k.cs.length) I (a.ts.take i)) ⟨none,none,[],rfl,rfl,a_,.nil,λb u c=>by rw[c7 (dg c ha)];exact c,(λt h=>by cases h),.nil,.nil⟩ ?_ ?_ ?_
 ·rintro i M L hi⟨v1,v2,I,rfl,l,ea,pd,up,nw,pw,cs⟩;exact up _ _ (sV _ _ dF)
 ·rintro i y M L pp hy⟨v1,v2,I,rfl,l,ea,pd,up,nw,pw,cs⟩aF N hN;obtain⟨t,T,ht,Y,rfl⟩:=Fj hy;obtain⟨aH,ac,tk⟩:=tr.at ht;rw[Y]at ac;cases ac;have aa:di L (upd L pp (.tup [kV (Sum.inr T.1),.ref t.a])):=di.new aF;have ak:lW Z C K (upd L pp (.tup [kV (Sum.inr T.1),.ref t.a])) t T.2:=(((tk.same s2).sd ne sF).same sV|>.same up).same aa;obtain⟨aC,vt,aD,_⟩:=ak.ob;have mt:t∈a.ts:=aaj ht;have mp:T∈d.tr:=aaj Y;refine⟨pp,_,rfl,gf.of a_,rfl,_,_,rfl,_,_,rfl,rfl,?_⟩;refine⟨_,rfl,_,rfl,t.a,aC,_,rfl,aD,rfl,t,T.2,rfl,ak,cl t mt,(sz.ln T mp).2,(sz.ln T mp).1,λt' H3 ah ap s3 aq=>?_⟩;have S3:di L H3:=aa.trans s3;have il:i<d.tr.length:=(aar.mp Y).1;have ab:(d.tr.take i).length=i:=by rw[aaS];omega
  have new:jq (lN I (d.tr.take i)) (Sum.inr T.1)=none:=by
   cases hv:jq (lN I (d.tr.take i)) (Sum.inr T.1)with
   |none=>rfl
   | some y=>
     exfalso;have m:=JZ hv;rw[Gr (by rw[l,ab])]at m;obtain⟨p0,m0,e0⟩:=aap.mp m;have ay:p0.1=T.1:=abt e0;obtain⟨j,hj⟩:=aax.mp m0;have jl:j<i:=by have:=(aar.mp hj).1;omega
     rw[acG jl]at hj;have:=(ab8 (i:=j) (j:=i) (by rw[aad];omega) nm).mp (by rw[aao,aao,hj,Y];simp[ay]);omega
  have tks:d.tr.take (i+1)=d.tr.take i++[T]:=by rw[aaT,Y];rfl
  have az:a.ts.take (i+1)=a.ts.take i++[t]:=by rw[aaT,ht];rfl
  have sd:gQ S H3 (upd H3 J (.dK (putK (lN I (d.tr.take i)) (Sum.inr T.1) (.ref t'.a)))):=gQ.put (S3 _ _ ea) (.inl ⟨_,.inl rfl⟩);refine⟨_,Sum.inr T.1,S3 _ _ ea,rfl,?_,hN _ _ ⟨_,_,I++[t'],rfl,by rw[aas,l];rfl,?_,?_,λb u c=>?_,λu hu=>?_,?_,?_⟩⟩
  ·rw[vH (by rw[l,ab]),ab];exact aaF (show i<7 by have:=sz.tl;omega) (by decide)
  ·rw[a_,G3 _ new,tks,M8 (by rw[l,ab])];rfl
  ·rw[tks];exact Pd.app (R:=λt p=>lW Z C K _ t p.2) (.cons (aq.sd ne sd) .nil) (pd.map λ_ _ r=>(r.same S3).sd ne sd)
  ·rw[c7 (dg c ha)];exact S3 _ _ (up _ _ c)
  ·rcases aak.mp hu with hu|hu
   ·exact nw u hu
   ·cases aam.mp hu;exact(ah.back aa).back up
  ·refine List.pairwise_append.mpr ⟨pw,List.pairwise_singleton _ _,λu hu u' au b mb av=>?_⟩;cases aam.mp au;obtain⟨j,hj⟩:=aax.mp hu;obtain⟨_,_,aE⟩:=pd.at hj;obtain⟨ob,c⟩:=aE.here b mb;have:=ah.all b av;rw[aa _ _ c]at this;cases this
  ·rw[az];exact Pd.app (R:=λ(t u:TA)=>t.k.cs.length=u.k.cs.length) (.cons ap .nil) cs
 ·rintro M L⟨v1,v2,I,rfl,l,ea,pd,up,nw,pw,cs⟩;rw[kl]at l;rw[kl,abd (aaf _)]at ea pd;rw[kl,<-tl,abd (aaf _)]at cs;have dH:L a.dt=some (.frz o (.dK (lN a.ts d.tr))):=up _ _ (sV _ _ dF);refine⟨dH,?_⟩;have xT:x≠a.dt:=(nx et).symm;have xH:L x=some (.ins S B (Be d.pg d.rm p nt nc false .non)):=up _ _ (sV _ _ (f2 _ _ x2 xT));refine⟨_,rfl,x,S,B,Be d.pg d.rm p nt nc false .non,rfl,(by rw[c7 xT];exact xH),SZ.c,SZ.s4,(show 7<1000 by decide),?_⟩;generalize h4:upd (upd L a.dt (.dK (lN a.ts d.tr))) x (.ins S B (gJ "tracks" (.ref J) (Be d.pg d.rm p nt nc false .non)))=U;have s4:di H U:=λb u c=>by
   rw[<-h4,c7 (nx c)];by_cases z:b=a.dt
   ·subst z;rw[a_];rw[et]at c;exact c
   ·rw[c7 z];exact up _ _ (sV _ _ (f2 _ _ (s2 _ _ c) z))
  have x4:U x=some (.ins S B (Be d.pg d.rm p J nc false .non)):=by rw[<-h4];exact a_
  have px:p≠x:=ae.symm;have pT:p≠a.dt:=(dg et aj).symm;have p4:U p=some (.dK (El a.ks d.kn)):=by rw[<-h4,c7 px,c7 pT];exact up _ _ (sV _ _ (f2 _ _ p2 pT))
  have ax:J≠x:=(dg x2 af).symm;have aT:J≠a.dt:=(dg (sV _ _ dF) ha).symm;have a4:U J=some (.dK (lN I d.tr)):=by rw[<-h4,c7 ax,c7 aT];exact ea
  have d4:gQ S L U:=by rw[<-h4];exact(gQ.put dH (.inl ⟨_,.inr ⟨_,rfl⟩⟩)).trans (gQ.put (show upd L a.dt _ x=some _ by rw[c7 xT];exact xH) (.inr ⟨_,_,rfl⟩))
  clear h4;refine⟨a.dc,_,s4 _ _ ec,λo2=>?_⟩;generalize hG:upd U a.dc (.frz o2 (.dK []))=G;have dG:G a.dc=some (.frz o2 (.dK [])):=by rw[<-hG];exact a_
  have g4:∀b u,U b=some u->b≠a.dc->G b=some u:=λb u c nb=>by rw[<-hG,c7 nb];exact c
  have sG:gQ S U G:=by rw[<-hG];exact gQ.put (s4 _ _ ec) (.inl ⟨_,.inl rfl⟩)
  have nG:∀{b},G b=none->U b=none:=λ{b}O=>by
   rw[<-hG]at O;by_cases z:b=a.dc
   ·subst z;rw[a_]at O;cases O
   ·rw[c7 z]at O;exact O
  refine⟨_,rfl,a.a,S,dx,_,_,rfl,g4 _ _ (s4 _ _ e) (j9 e ec (by intro z;cases z)),SZ.c,SZ.s5,rfl,⟨a.dc,o2,_,rfl,dG⟩,a.dc,o2,_,rfl,rfl,dG,λad ai=>?_⟩;refine⟨ad,a.dc,o2,_,rfl,a_,di.new ai _ _ dG,λD O=>?_⟩;generalize hW:upd G ad (yd ad a.dc)=W at O|-;have sW:di G W:=by rw[<-hW];exact di.new ai
  have X:U D=none:=nG (e_ sW O);have bC:D≠a.dc:=(dg (sW _ _ dG) O).symm;have bx:D≠x:=(dg x4 X).symm;have xC:x≠a.dc:=(nx ec).symm;have xW:W x=some (.ins S B (Be d.pg d.rm p J nc false .non)):=sW _ _ (g4 _ _ x4 xC);refine qt (λi M L=>L=upd W D (.dK [])) rfl ?_ ?_ ?_
  ·rintro i M L hi rfl;rw[c7 bC.symm];exact sW _ _ dG
  ·intro i y M L pp hy;simp at hy
  ·rintro M H5 rfl;refine⟨by rw[c7 bC.symm];exact sW _ _ dG,?_⟩;refine⟨_,rfl,x,S,B,Be d.pg d.rm p J nc false .non,rfl,(by rw[c7 xC,c7 bx.symm];exact xW),SZ.c,SZ.s5,(show 7<1000 by decide),?_⟩;generalize h6:upd (upd (upd W D (.dK [])) a.dc (.dK [])) x (.ins S B (gJ "counters" (.ref D) (Be d.pg d.rm p J nc false .non)))=H6;have ag:∀b u,U b=some u->b≠x->H6 b=some u:=λb u c nb=>by
    rw[<-h6,c7 nb];by_cases z:b=a.dc
    ·subst z;rw[a_,<-s4 _ _ ec];exact c
    ·rw[c7 z,c7 (dg c X)];exact sW _ _ (g4 _ _ c z)
   have s6:di H H6:=λb u c=>ag b u (s4 _ _ c) (nx c);have x6:H6 x=some (.ins S B (Be d.pg d.rm p J D false .non)):=by rw[<-h6];exact a_
   have b6:H6 D=some (.dK []):=by rw[<-h6,c7 bx,c7 bC];exact a_
   have d6:gQ S U H6:=λb u c n=>ag b u c (λz=>n (by subst z;rw[x4]at c;cases c;exact .inr ⟨_,_,rfl⟩));refine⟨_,rfl,a.a,S,dx,_,_,rfl,s6 _ _ e,SZ.c,SZ.s6,rfl,_,rfl,x,S,B,_,rfl,x6,SZ.c,SZ.s6,(show 7<1000 by decide),?_⟩;refine⟨_,rfl,a.a,S,dx,_,_,rfl,(by rw[c7 (nx e)];exact s6 _ _ e),SZ.c,SZ.s7,rfl,_,rfl,x,S,B,_,rfl,a_,SZ.c,SZ.s7,(show 7<1000 by decide),?_⟩;rw[iV];refine⟨_,rfl,?_⟩;generalize h7:upd H6 x _=H7;have x7:H7 x=some (.ins S B (Be d.pg d.rm p J D d.still v)):=by rw[<-h7];exact a_
   have s7:di H H7:=λb u c=>by rw[<-h7,c7 (nx c)];exact s6 _ _ c
   have d7:gQ S H6 H7:=by rw[<-h7];exact gQ.put x6 (.inr ⟨_,_,rfl⟩)
   have t7:∀b u,U b=some u->b≠x->H7 b=some u:=λb u c nb=>by rw[<-h7,c7 nb];exact ag b u c nb
   have none:∀{b},HV b=none->H b=none:=λh=>e_ s2 (nF (e_ sV h));refine q ⟨x,p,J,D,a.ks,I⟩ H7 ⟨hx,aj,e_ s2 af,e_ s4 X,λt m=>⟨none (nw t m).a,λb h=>none ((nw t m).k.o b h),λb h=>none ((nw t m).k.l b h)⟩⟩ rfl cs s7 ⟨⟨B,v,x7,rv.same s7⟩,t7 _ _ p4 px,kn.map λ_ _⟨t,k⟩=>⟨t,k.same s7⟩,t7 _ _ a4 ax,pd.map λ_ _ r=>((r.sd ne d4).sd ne d6).sd ne d7,(by rw[<-h7,c7 bx];exact b6),nm,aA,IK pw,nh,aB,dg p2 af,dg p4 X,dg a4 X⟩
end
theorem zip_get{b d:Type}{f:b->V}:∀{ts:List b}{tr:List (Str×d)}{i:Nat}{t:b}{p:Str×d},(tr.map (·.1)).Nodup->ts[i]?=some t->tr[i]?=some p->jq (List.zipWith (λt p=>((Sum.inr p.1:Key),f t)) ts tr) (Sum.inr p.1)=some (f t)
 |[],_,_,_,_,_,h,_=>by simp at h
 |_::_,[],_,_,_,_,_,h=>by simp at h
 | t::ts,q::tr,0,_,_,_,h1,h2=>by simp at h1 h2;subst h1 h2;exact nO rfl
 | t::ts,q::tr,i+1,u,p,n,h1,h2=>by
   have c:=aaD.mp n;have a:tr[i]?=some p:=by simpa using h2
   have ne:¬q.1=p.1:=λe=>c.1 (by show q.1∈_;rw[e];exact aap.mpr ⟨p,aaj a,rfl⟩);show jq ((Sum.inr q.1,f t)::List.zipWith _ ts tr) _=_;rw[mD (λe=>ne (abt e))];exact zip_get c.2 (by simpa using h1) a
theorem su{a b:Type}{f:a->V}:∀{ts:List a}{tr:List (Str×b)},(∀p∈tr,p.1≠nm)->jq (List.zipWith (λt p=>((Sum.inr p.1:Key),f t)) ts tr) (Sum.inr nm)=none
 |[],_,_=>by simp[jq]
 |_::_,[],_=>by simp[jq]
 | t::ts,q::tr,h=>by show jq ((Sum.inr q.1,f t)::List.zipWith _ ts tr) _=_;rw[mD (λe=>h q (aal ..) (abt e))];exact su λp m=>h p (aah _ m)
section
variable{P:ZE}{w:ZH}{K:Zs}{mg:Y1}{base:ZN}{Z:LC}{C S:Zl}
inductive n8(Z:LC)(C S:Zl)(K:Zs)(vs:List V)(H:Hp)(Q:VK)(E:XK):Prop
 |mk (s:SA) (d:Sd) (nm:Str) (i:Nat) (t:TA) (p:Str×Tk):vs=[.ref s.a,.str nm]->iR Z C S K H s d->s.ts[i]?=some t->d.tr[i]?=some p->p.1=nm->Q (.ref t.a) H->n8 Z C S K vs H Q E
def Vf:du ["self","name"] ["self","name"] (b_ (sM 1)):=by ext
def mL(F:ir K "track_of" "Stand.track_of" (sM 1) f m)(SZ:SZ K mg S):dm P w K mg base dU 1 f m ["self","name"] (n8 Z C S K):=by
 refine F.ok Vf (by ext) λn A b s H vs Q E o h=>?_;obtain⟨a,d,nm,i,t,p,rfl,c,r,x,rfl,q⟩:=h;have j:=pO o;refine⟨_,(bK (eX (Bd (vy j (pv 1) (dq (pv 0) rfl))) (d8 gj) dI) (d8 (dw (fQ j (dq (pv 0) rfl) (pv 1))))),?_⟩;obtain⟨l,v,e,_⟩:=c.ob;have g:j8 H a.dt (.str p.1) (some (.ref t.a)):=by have:=zip_get (f:=λt:TA=>V.ref t.a) c.nm r x;rw[<-this];exact j8.k (k:=Sum.inr p.1) c.et
 refine⟨_,rfl,_,rfl,a.a,S,l,_,_,rfl,e,SZ.c,SZ.s4,rfl,a.dt,_,rfl,g,_,rfl,?_⟩;refine jT (λh=>by cases h) (λ_=>?_);exact⟨_,rfl,a.a,S,l,_,_,rfl,e,SZ.c,SZ.s4,rfl,_,rfl,a.dt,_,rfl,g,q⟩
end
section
variable{P:ZE}{w:ZH}{K:Zs}{mg:Y1}{base:ZN}{Z:LC}{C S:Zl}{H H' H'':Hp}
inductive Bh(Z:LC)(C S:Zl)(K:Zs)(vs:List V)(H:Hp)(Q:VK)(E:XK):Prop
 |mk (s:SA) (d:Sd) (nm:Str) (i:Nat) (a:Zl) (p:Str×List ji):vs=[.ref s.a,.str nm]->iR Z C S K H s d->s.ks[i]?=some a->d.kn[i]?=some p->p.1=nm->Q (.ref a) H->Bh Z C S K vs H Q E
def Ub:du ["self","name"] ["self","name"] (b_ (sM 2)):=by ext
def IV(F:ir K "kind_of" "Stand.kind_of" (sM 2) f n)(SZ:SZ K mg S):dm P w K mg base dU 1 f n ["self","name"] (Bh Z C S K):=by
 refine F.ok Ub (by ext) λo A c s H vs Q E r h=>?_;obtain⟨b,d,nm,i,a,p,rfl,j,x,y,rfl,q⟩:=h;have l:=pO r;refine⟨_,(bK (eX (Bd (vy l (pv 1) (dq (pv 0) rfl))) (d8 gj) dI) (d8 (dw (fQ l (dq (pv 0) rfl) (pv 1))))),?_⟩;obtain⟨m,v,e,_⟩:=j.ob;have g:j8 H b.dk (.str p.1) (some (.ref a)):=by have:=zip_get (f:=λt:Addr=>V.ref t) j.nk x y;rw[<-this];exact j8.k (k:=Sum.inr p.1) j.ek
 refine⟨_,rfl,_,rfl,b.a,S,m,_,_,rfl,e,SZ.c,SZ.s3,rfl,b.dk,_,rfl,g,_,rfl,?_⟩;refine jT (λh=>by cases h) (λ_=>?_);exact⟨_,rfl,b.a,S,m,_,_,rfl,e,SZ.c,SZ.s3,rfl,_,rfl,b.dk,_,rfl,g,q⟩
end
section
variable{K:Zs}{Z:LC}{C S:Zl}{H H':Hp}
structure Nq(Z:LC)(C:Zl):Prop where
 k:C≠Z.k
 c:C≠Z.c
 p:C≠Z.p
 l:C≠Z.l
def eE.off(d:eE Z H k n)(m:Mv Z k H c H')(e:H b=some o)(nl:∀a,o≠.lst a)(f:Plain Z o):H' b=some o:=
 m.out b o e (λz=>by obtain⟨a,h⟩:=d.has_ls z;rw[e]at h;cases h;exact nl _ rfl) f
def eE.sqT(b:eE Z H k n)(m:Mv Z k H d H')(z:gf K H a c):gf K H' a c:=by
 rcases z with(z|⟨o,z⟩)|z
 ·exact .inl (.inl (b.off m z (by intro _ h;cases h) (by intro _ _ _ h;cases h)))
 ·exact .inl (.inr ⟨o,b.off m z (by intro _ h;cases h) (by intro _ _ _ h;cases h)⟩)
 ·exact .inr z
def eE.own_ls(f:eE Z H k n)(h:b∈k.own):∃C a fs,H b=some (.ins C a fs):=by
 rcases aai.mp h with rfl|m
 ·obtain⟨a,e⟩:=f.ob;exact⟨_,_,_,e⟩
 ·rcases aak.mp m with m|m
  ·obtain⟨s,c,rfl⟩:=aap.mp m;obtain⟨i,d⟩:=aax.mp c;obtain⟨y,_,r⟩:=f.pg.at d;obtain⟨a,e⟩:=r.ob;exact⟨_,_,_,e⟩
  ·obtain⟨s,c,g⟩:=aaM.mp m;obtain⟨i,d⟩:=aax.mp c;obtain⟨y,_,r⟩:=f.pg.at d;obtain⟨j,l⟩:=aax.mp g;obtain⟨z,_,o⟩:=r.cs.at l;obtain⟨a,_,_,_,e,_⟩:=o.ex;exact⟨_,_,_,e⟩
def eE.by{g o k2:LA}{B v:Ln}(h:Z.Ok)(j:eE Z H g B)(a:eE Z H k2 v)(D:∀b∈g.own,b∉k2.own)(E:∀b∈g.ls,b∉k2.ls)(m:Mv Z g H o H'):eE Z H' k2 v:=by
 have kt:Kt Z H H':=⟨j.tks h m,λc f fs e=>m.out c _ e (Jc j e) (by intro C y A z;cases z;exact⟨h.kc,h.kp,h.kl⟩)⟩;have n:∀b∈k2.own,H' b=H b:=λb d=>by obtain⟨C,f,fs,e⟩:=a.own_ls d;rw[m.oth b _ e (λz=>D b z d) (Jc j e),e]
 have p:∀b∈k2.ls,H' b=H b:=λb d=>by obtain⟨F,e⟩:=a.has_ls d;rw[m.oth b _ e (λz=>by obtain⟨C,f,fs,q⟩:=j.own_ls z;rw[e]at q;cases q) (λz=>E b z d),e]
 obtain⟨f,e⟩:=a.ob;refine⟨⟨f,by rw[n _ LA.a_own];exact e⟩,by rw[p _ (aal ..)];exact a.ls,Pd.mapM (λs l m r=>?_) a.pg,a.n1,a.n2,a.n3⟩;obtain⟨i,x⟩:=aax.mp l;exact r.kt kt (n _ (LA.p_own x)) (p _ (aah _ (aap.mpr ⟨s,l,rfl⟩))) λc w=>n _ (LA.c_own (aaM.mpr ⟨s,l,w⟩))
theorem Ax{c a:Type}{R:c->a->Prop}{Q:a->Prop}:∀{b:List c}{ys:List a},Pd R b ys->(∀y∈ys,Q y)->Pd (λx y=>R x y/\Q y) b ys
 |_,_,.nil,_=>.nil
 |_,_,.cons r t,h=>.cons ⟨r,h _ (aal ..)⟩ (Ax t λy m=>h y (aah _ m))
theorem BX(ht:ts[i]?=some t)(hp:tr[i]?=some p)(ea:t'.a=t.a)(ep:p'.1=p.1):lN (ts.set i t') (tr.set i p')=lN ts tr:=by
 induction ts generalizing tr i with
 |nil=>simp at ht
 | cons u ts ih=>
   cases tr with
   |nil=>simp at hp
   | cons q tr=>
     cases i with
     | zero=>simp at ht hp;subst ht hp;unfold lN;rw[abB,abB,abQ,abQ,ea,ep]
     | succ i=>have:=ih (tr:=tr) (i:=i) (by simpa using ht) (by simpa using hp);unfold lN at this|-;rw[abz,abz,abQ,abQ,this]
set_option tactic.hygienic true in
def iR.move{s:SA}{d:Sd}{t:TA}(zo:Z.Ok)(ne:xu Z C S)(cn:Nq Z C)(st:iR Z C S K H s d)(ht:s.ts[i]?=some t)(hp:d.tr[i]?=some p)(m:Mv Z t.k H k' H')(ln':eE Z H' k' n'):
 iR Z C S K H' {s with ts:=s.ts.set i ⟨t.a,k'⟩} {d with tr:=d.tr.set i (p.1,{p.2 with ln:=n'})}:=by
 obtain⟨p0,hp0,tk⟩:=st.tr.at ht;rw[hp]at hp0;cases hp0;have ln:=tk.ln;obtain⟨dx,v,e,rv⟩:=st.ob;have dk:∀{b kvs},H b=some (.dK kvs)->H' b=some (.dK kvs):=λe=>ln.off m e (by intro _ h;cases h) (by intro _ _ _ h;cases h);have mem:p∈d.tr:=aaj hp;have tkr:∀{u:TA}{q:Tk},lW Z C K H u q->pP q.ts=true->∃dx v,H' u.a=some (.ins C dx (Dk u.k.a q.ck v))/\Rep K H' v q.ts:=λh n=>by obtain⟨dx,v,e,r⟩:=h.ob;exact⟨dx,v,ln.off m e (by intro _ h;cases h) (by intro _ _ _ h;cases h;exact⟨cn.c,cn.p,cn.l⟩),m7 (λa xs z=>ln.sqT m z) r n⟩
 have il:i<s.ts.length:=(aar.mp ht).1;have kn':Pd (λa(q:Str×List ji)=>∃ta,gZ Z.k H' a q.1 ta q.2) s.ks d.kn:=st.kn.map λa q h=>by obtain⟨ta,h⟩:=h;exact⟨ta,h.kt ⟨ln.tks zo m,λc dx fs e=>m.out c _ e (Jc ln e) (by intro C dx' fs' z;cases z;exact⟨zo.kc,zo.kp,zo.kl⟩)⟩⟩
 have ap:∀j u,j≠i->s.ts[j]?=some u->Apart ⟨t.a,k'⟩ u:=λj u nj hu b mb mu=>by
  obtain⟨q,_,tu⟩:=st.tr.at hu;have a0:=st.dj i j t u (aaI nj) ht hu;obtain⟨o,eb⟩:=tu.here b mu;rcases aai.mp mb with h|mb
  ·exact a0 b (by rw[h];exact aal ..) mu
  ·rcases aak.mp mb with mb|mb
   ·rcases m.fro b mb with h|h
    ·exact a0 b (aah _ (aaY _ h)) mu
    ·rw[h]at eb;cases eb
   ·rcases m.fr b mb with h|h
    ·exact a0 b (aah _ (aaE _ h)) mu
    ·rw[h]at eb;cases eb
 refine⟨⟨dx,v,ln.off m e (by intro _ h;cases h) (by intro _ _ _ h;cases h;exact⟨ne.c.symm,ne.p.symm,ne.l.symm⟩),m7 (λa xs z=>ln.sqT m z) rv st.nh⟩,dk st.ek,kn',?_,?_,dk st.ec,?_,st.nk,?_,st.nh,?_,st.n1,st.n2,st.n3⟩
 ·show H' s.dt=some (.dK (lN (s.ts.set i ⟨t.a,k'⟩) (d.tr.set i (p.1,{p.2 with ln:=n'}))));rw[BX (t':=⟨t.a,k'⟩) (p':=(p.1,{p.2 with ln:=n'})) ht hp rfl rfl];exact dk st.et
 ·refine Pd.setM (R:=λu(q:Str×Tk)=>lW Z C K H u q.2/\pP q.2.ts=true) ?_ i (λj u q nj hu r=>?_) (Ax st.tr st.nt)
  ·obtain⟨dx,v,e,r⟩:=tkr tk (st.nt p mem);exact⟨⟨dx,v,by show H' t.a=some (.ins C dx (Dk k'.a _ v));rw[m.a];exact e,r⟩,ln'⟩
  ·have a0:=st.dj i j t u (aaI nj) ht hu;exact⟨tkr r.1 r.2,ln.by zo r.1.ln (λb m1 m2=>a0 b (aah _ (aaY _ m1)) (aah _ (aaY _ m2))) (λb m1 m2=>a0 b (aah _ (aaE _ m1)) (aah _ (aaE _ m2))) m⟩
 ·show((d.tr.set i (p.1,_)).map (·.1)).Nodup;have:(d.tr.set i (p.1,{p.2 with ln:=n'})).map (·.1)=d.tr.map (·.1):=by
   rw[abA];refine List.ext_getElem? λj=>?_;rw[abk];split
   ·rename_i h;subst h;have jl:i<(d.tr.map (·.1)).length:=by rw[aad];exact(aar.mp hp).1
    rw[aac jl,aao,hp];rfl
   ·rfl
  rw[this];exact st.nm
 ·intro j k u v njk hu hv;have hu':(s.ts.set i ⟨t.a,k'⟩)[j]?=some u:=hu;have hv':(s.ts.set i ⟨t.a,k'⟩)[k]?=some v:=hv;rw[abk]at hu' hv';by_cases zj:i=j
  ·subst zj;rw[aac rfl,aac il]at hu';rw[aab njk]at hv';cases hu';exact ap k v (aaI njk) hv'
  ·rw[aab zj]at hu';by_cases zk:i=k
   ·subst zk;rw[aac rfl,aac il]at hv';cases hv';exact(ap j u (aaI zj) hu').symm
   ·rw[aab zk]at hv';exact st.dj j k u v njk hu' hv'
 ·intro q mq;rcases abf mq with h|h
  ·exact st.nt q h
  ·rw[h];exact st.nt p mem
end
noncomputable def SA.all(s:SA):List Addr:=s.a::s.dk::s.dt::s.dc::s.ts.flatMap TA.all
structure Fr(s s':SA)(H H':Hp):Prop where
 kp:∀b u,H b=some u->b∉s.all->H' b=some u
 sub:∀b∈s'.all,b∈s.all\/H b=none
 gr:∀b,H' b=none->H b=none
 a:s'.a=s.a
structure Tt(n:Ln)(tm:Int):Prop where
 ne:n.pg≠[]
 hm:2<=n.most
 hl:n.pg.length<=900
 hc:∀m∈n.pg,m.cs.length<=900
 ht:∀t,n.last=some t->t<=tm
noncomputable def Sd.put(d:Sd)(i:Nat)(p:Str×Tk)(n:Ln):Sd:={d with tr:=d.tr.set i (p.1,{p.2 with ln:=n})}
section
variable{P:ZE}{w:ZH}{K:Zs}{mg:Y1}{base:ZN}{Z:LC}{C S:Zl}{H H' H'':Hp}
def Fr.trans(a:Fr s f H H')(b:Fr f d H' H''):Fr s d H H'':=by
 refine⟨λc u e n=>b.kp c u (a.kp c u e n) λm=>?_,λc m=>?_,λc e=>a.gr c (b.gr c e),b.a.trans a.a⟩
 ·rcases a.sub c m with h|h
  ·exact n h
  ·rw[e]at h;cases h
 ·rcases b.sub c m with h|h
  ·exact a.sub c h
  ·exact .inr (a.gr c h)
def Fr.same(q:di H H'):Fr s s H H':=⟨λb u e _=>q _ _ e,λb m=>.inl m,λb e=>e_ q e,rfl⟩
def SA.t_all{s:SA}{i:Nat}{t:TA}(h:s.ts[i]?=some t){b:Zl}(m:b∈t.all):b∈s.all:=
 aah _ (aah _ (aah _ (aah _ (aaM.mpr ⟨t,aaj h,m⟩))))
def Mv.frm{s:SA}{i:Nat}{t:TA}{j:LA}(g:s.ts[i]?=some t)(m:Mv Z t.k H j H'):Fr s {s with ts:=s.ts.set i ⟨t.a,j⟩} H H':=by
 refine⟨λb u e n=>m.oth b u e (λz=>n (SA.t_all g (aah _ (aaY _ z)))) (λz=>n (SA.t_all g (aah _ (aaE _ z)))),λb d=>?_,m.gr,rfl⟩;have up:∀{c:Zl}{l:YI},c∈l->c∈s.a::s.dk::s.dt::s.dc::l:=λm=>aah _ (aah _ (aah _ (aah _ m)));have f:b∈[s.a,s.dk,s.dt,s.dc]++(s.ts.set i ⟨t.a,j⟩).flatMap TA.all:=d;rcases aak.mp f with h|h
 ·exact .inl (show b∈[s.a,s.dk,s.dt,s.dc]++_ from aaY _ h)
 ·obtain⟨u,o,d⟩:=aaM.mp h;rcases abf o with h|h
  ·exact .inl (up (aaM.mpr ⟨u,h,d⟩))
  ·subst h;rcases aai.mp d with h|d
   ·exact .inl (SA.t_all g (by rw[h];exact aal ..))
   ·rcases aak.mp d with h|h
    ·rcases m.fro b h with h|h
     ·exact .inl (SA.t_all g (aah _ (aaY _ h)))
     ·exact .inr h
    ·rcases m.fr b h with h|h
     ·exact .inl (SA.t_all g (aah _ (aaE _ h)))
     ·exact .inr h
inductive Qh(Z:LC)(C S:Zl)(K:Zs)(vs:List V)(H:Hp)(Q:VK)(E:XK):Prop
 |mk (s:SA) (d:Sd) (h:Zl) (nm kd:Str) (i j:Nat) (t:TA) (p:Str×Tk) (q:Str×List ji):vs=[.ref s.a,.ref h]->gf K H h [.str nm,.str kd]->iR Z C S K H s d->s.ts[i]?=some t->d.tr[i]?=some p->p.1=nm->d.kn[j]?=some q->q.1=kd->d.still=false->tO q.1 q.2->Tt p.2.ln p.2.ck->(∀k' H',iR Z C S K H' {s with ts:=s.ts.set i ⟨t.a,k'⟩} (d.put i p (n7 q.1 q.2 p.2.ck p.2.ln).2)->Fr s {s with ts:=s.ts.set i ⟨t.a,k'⟩} H H'->Q (Wo (n7 q.1 q.2 p.2.ck p.2.ln).1) H')->Qh Z C S K vs H Q E
def Fl:du ["stand","handed","name","kind","track","form"] ["stand","handed"] (b_ (top 94)):=by ext
def Uz(F:ir K "do_claim" "do_claim" (top 94) f fd)(L:LZ K mg Z)(TZ:TZ K mg C)(SZ:SZ K mg S)(ne:xu Z C S)(cn:Nq Z C)
 (M:MD K S "track_of" "Stand.track_of" (sM 1) ["self","name"] W o)(N:MD K S "kind_of" "Stand.kind_of" (sM 2) ["self","name"] X x)
 (MC:MD K Z.l "claim" "Lane.claim" (lM 1) ["self","kind","time"] Y y)(GC:dm P w K mg base dU 8 Y y ["self","kind","time"] (Oo Z)):dm P w K mg base dU 9 f fd ["stand","handed"] (Qh Z C S K):=by
 have GT:dm P w K mg base dU 1 W o ["self","name"] (n8 Z C S K):=mL M.F SZ;have GK:dm P w K mg base dU 1 X x ["self","name"] (Bh Z C S K):=IV N.F SZ;refine F.ok Fl (by ext) λB A D s H vs Q E O h=>?_;obtain⟨g,d,h,nm,kd,i,j,t,p,r,rfl,sq,b,z,I,rfl,R,rfl,hs,ko,l,q⟩:=h;have c:eZ 1 _:=O.mono (by decide);refine⟨_,(bK (lY (pv 1) (iy rfl (dJ (jP 2 Fl.nd) (dJ (jP 3 Fl.nd) gP)))) (bK (jj 4 Fl.nd (eO (E:=E0) (pv 0) SZ.c M.M GT c M.b .nil dR (aK (pv 2) cZ))) (bK (jj 5 Fl.nd (eO (E:=E0) (pv 0) SZ.c N.M GK c N.b .nil dR (aK (pv 3) cZ))) (bK (eX (iT (dq (pv 0) rfl)) (d8 gj) dI) (d8 (dw (eO (E:=E0) (dq (pv 4) rfl) L.lc MC.M GC O MC.b .nil dR (aK (pv 5) (aK (dq (pv 4) rfl) cZ))))))))),?_⟩;obtain⟨J,v,e,rv⟩:=b.ob;refine⟨_,rfl,h,_,rfl,sq,rfl,_,_,rfl,_,_,rfl,rfl,?_⟩;refine⟨_,rfl,g.a,J,_,rfl,e,rfl,_,rfl,g,d,p.1,i,t,p,rfl,b,z,I,rfl,?_⟩;obtain⟨a,ha,ta,ka⟩:=b.kn.at' R;refine⟨_,rfl,g.a,J,_,rfl,e,rfl,_,rfl,g,d,r.1,j,a,r,rfl,b,ha,R,rfl,?_⟩;refine⟨_,rfl,g.a,S,J,_,_,rfl,e,SZ.c,SZ.s6,rfl,_,rfl,?_⟩;rw[hs];refine gW rfl ?_;obtain⟨p0,n,tk⟩:=b.tr.at z;rw[I]at n;cases n;obtain⟨T,vT,U,_⟩:=tk.ob;obtain⟨dl,el⟩:=tk.ln.ob;exact⟨_,rfl,t.a,C,T,_,_,rfl,U,TZ.c,TZ.t1,rfl,t.k.a,dl,_,rfl,el,rfl,_,rfl,_,rfl,t.a,C,T,_,_,rfl,U,TZ.c,TZ.t2,rfl,t.k,p.2.ln,a,ta,r.1,r.2,p.2.ck,rfl,tk.ln,ka,ko,l.ne,l.hm,l.hl,l.hc,l.ht,λk' H' G m=>q k' H' (b.move L.ok ne cn z I m G) (m.frm z)⟩
inductive Bm(Z:LC)(C:Zl)(K:Zs)(vs:List V)(H:Hp)(Q:VK)(E:XK):Prop
 |mk (s:TA) (t:Tk) (r:List Cl) (m:Cl):vs=[.ref s.a]->lW Z C K H s t->s.k.cs.length<=900->t.ln.pg.length<=900->wait t.ln=r++[m]->(∀H',di H H'->Q (.int m.tk) H')->Bm Z C K vs H Q E
def NQ:du ["self","tickets"] ["self"] (b_ (tM 1)):=by ext
def OJ(F:ir K "top" "Track.top" (tM 1) f n)(T:Txt K mg)(L:LZ K mg Z)(TZ:TZ K mg C)(o:MD K Z.l "pending" "Lane.pending" (lM 16) ["self"] j b)(J:dm P w K mg base dU 3 j b ["self"] (QH Z)):dm P w K mg base dU 4 f n ["self"] (Bm Z C K):=by
 refine F.ok NQ (by ext) λp A d s H vs Q E x h=>?_;obtain⟨g,t,r,m,rfl,tk,B,D,i,q⟩:=h;refine⟨_,(bK (jj 1 NQ.nd (gb (E:=E0) (dq (pv 0) rfl) L.lc o.M J x o.b .nil dR)) (bK (eX (dM gG (dD dO (by rfl) T.len gD (aK (pv 1) cZ)) dh (dN _)) (d8 gj) dI) (d8 (dw (dZ g_ (pv 1) (oh lV dh)))))),?_⟩;obtain⟨G,v,e,_⟩:=tk.ob;obtain⟨dl,I⟩:=tk.ln.ob;refine⟨_,rfl,g.a,C,G,_,_,rfl,e,TZ.c,TZ.t1,rfl,g.k.a,dl,_,rfl,I,rfl,g.k,t.ln,rfl,tk.ln,B,D,λl M y _ a=>?_⟩;refine⟨_,rfl,l,_,rfl,.inl (fj.of a),rfl,_,rfl,?_⟩;refine gW (by rw[i];simp;omega) ?_;have z:((wait t.ln).map λc=>V.int c.tk)[((wait t.ln).map λc=>V.int c.tk).length-1]?=some (.int m.tk):=by rw[i];simp
 exact⟨_,rfl,_,rfl,l,_,_,_,rfl,rfl,fj.of a,nY z,q _ y⟩
inductive Pu(Z:LC)(vs:List V)(H:Hp)(Q:VK)(E:XK):Prop
 |mk (k:LA) (n:Ln) (tk:Int):vs=[.ref k.a,.int tk]->eE Z H k n->k.cs.length<=900->n.pg.length<=900->(∃m∈wait n,m.tk=tk)->(∀(x t:Zl)(m:Cl)(H':Hp),di H H'->m∈wait n->m.tk=tk->H' x=some (.tup [.int m.tm,.str m.nm,.ref t])->H' t=some (.tup (m.vs.map V.int))->Q (.ref x) H')->Pu Z vs H Q E
def VN:du ["self","ticket","claim"] ["self","ticket"] (b_ (lM 17)):=by ext
def Uo(F:ir K "event" "Lane.event" (lM 17) f p)(L:LZ K mg Z)(r:MD K Z.l "waiting_with" "Lane.waiting_with" (lM 7) ["self","ticket"] o b)(U:dm P w K mg base dU 3 o b ["self","ticket"] (Gb Z)):dm P w K mg base dU 4 f p ["self","ticket"] (Pu Z):=by refine F.ok VN (by ext) λv A d s H vs Q E y h=>?_;obtain⟨k,n,tk,rfl,l,I,J,M,q⟩:=h;refine⟨_,(bK (jj 2 VN.nd (eO (E:=E0) (pv 0) L.lc r.M U y r.b .nil dR (aK (pv 1) cZ))) (d8 (dw (gw (aK (dq (pv 2) rfl) (aK (dq (dq (pv 2) rfl) rfl) (aK (dq (pv 2) rfl) cZ))))))),?_⟩;obtain⟨N,e⟩:=l.ob;refine⟨_,rfl,k.a,N,_,rfl,e,rfl,_,rfl,k,n,tk,rfl,l,I,J,M,λc m W z X B D G=>?_⟩;obtain⟨g,kk,a,t,i,O,R⟩:=B.ex;obtain⟨⟨dk,T⟩,_⟩:=id O;exact⟨_,rfl,c,Z.c,g,_,_,rfl,i,L.cc,L.c2,rfl,_,rfl,c,Z.c,g,_,_,rfl,i,L.cc,L.c3,rfl,kk,Z.k,dk,_,_,rfl,T,L.kc.cl,L.kc.nN,rfl,_,rfl,c,Z.c,g,_,_,rfl,i,L.cc,L.c4,rfl,(by ext),λx j=>q x t m _ (z.trans (di.new j)) D G a_ ((di.new j) _ _ R)⟩
inductive Ou(Z:LC)(C S:Zl)(K:Zs)(vs:List V)(H:Hp)(Q:VK)(E:XK):Prop
 |mk (s:SA) (d:Sd) (h b:Zl) (nm:Str) (i:Nat) (t:TA) (p:Str×Tk) (r:List Cl) (m:Cl) (zs:List Int):vs=[.ref s.a,.ref h]->gf K H h [.str nm,.ref b]->H b=some (.tup (zs.map V.int))->iR Z C S K H s d->s.ts[i]?=some t->d.tr[i]?=some p->p.1=nm->t.k.cs.length<=900->p.2.ln.pg.length<=900->((iu p.2.ln).map (·.tk)).Nodup->wait p.2.ln=r++[m]->((∀c∈wait p.2.ln,c.tk=m.tk->Pd ug c.fi zs))->(∀H',iR Z C S K H' s (d.put i p (lR m.tk zs p.2.ln))->Fr s s H H'->Q .non H')->Ou Z C S K vs H Q E
def Lz:du ["stand","handed","name","values","track"] ["stand","handed"] (b_ (top 95)):=by ext
def U5(F:ir K "do_fill" "do_fill" (top 95) f fd)(T:Txt K mg)(L:LZ K mg Z)(TZ:TZ K mg C)(SZ:SZ K mg S)(ne:xu Z C S)(cn:Nq Z C)
 (N:MD K S "track_of" "Stand.track_of" (sM 1) ["self","name"] Y n)(MP:MD K C "top" "Track.top" (tM 1) ["self"] fP o)(GP:dm P w K mg base dU 4 fP o ["self"] (Bm Z C K))
 (MF:MD K Z.l "fill" "Lane.fill" (lM 9) ["self","ticket","values"] fF x)(GF:dm P w K mg base dU 4 fF x ["self","ticket","values"] (Qm Z)):dm P w K mg base dU 5 f fd ["stand","handed"] (Ou Z C S K):=by
 have GT:dm P w K mg base dU 1 Y n ["self","name"] (n8 Z C S K):=mL N.F SZ;refine F.ok Lz (by ext) λz A B s H vs Q E D h=>?_;obtain⟨a,d,h,b,nm,i,t,p,r,m,zs,rfl,sq,hb,y,j,M,rfl,O,R,nd,U,fz,q⟩:=h;have J:eZ 1 _:=D.mono (by decide);refine⟨_,(bK (lY (pv 1) (iy rfl (dJ (jP 2 Lz.nd) (dJ (jP 3 Lz.nd) gP)))) (bK (jj 4 Lz.nd (eO (E:=E0) (pv 0) SZ.c N.M GT J N.b .nil dR (aK (pv 2) cZ))) (d8 (fc (eO (E:=E0) (dq (pv 4) rfl) L.lc MF.M GF D MF.b .nil dR (aK (gb (E:=E0) (pv 4) TZ.c MP.M GP D MP.b .nil dR) (aK (pv 3) cZ))))))),?_⟩;obtain⟨dx,v,e,rv⟩:=y.ob;refine⟨_,rfl,h,_,rfl,sq,rfl,_,_,rfl,_,_,rfl,rfl,?_⟩;refine⟨_,rfl,a.a,dx,_,rfl,e,rfl,_,rfl,a,d,p.1,i,t,p,rfl,y,j,M,rfl,?_⟩;obtain⟨p0,l,tk⟩:=y.tr.at j;rw[M]at l;cases l;obtain⟨W,vT,X,_⟩:=id tk.ob;obtain⟨dl,el⟩:=tk.ln.ob;refine⟨_,rfl,t.a,C,W,_,_,rfl,X,TZ.c,TZ.t1,rfl,t.k.a,dl,_,rfl,el,rfl,_,rfl,t.a,W,_,rfl,X,rfl,t,p.2,r,m,rfl,tk,O,R,U,λH1 G=>?_⟩;refine⟨_,rfl,t.k,p.2.ln,m.tk,b,zs,rfl,tk.ln.same G,O,R,nd,⟨m,by rw[U];simp,rfl⟩,G _ _ hb,fz,λH2 I mv=>?_⟩;have c:=(Mv.same (Z:=Z) (k:=t.k) G).trans mv;have hs:({a with ts:=a.ts.set i ⟨t.a,t.k⟩}:SA)=a:=by have:a.ts.set i ⟨t.a,t.k⟩=a.ts:=kZ j;rw[this]
 have g:=y.move L.ok ne cn j M c I;have fr:=c.frm j;rw[hs]at g fr;exact q H2 g fr
def iR.same(b:iR Z C S K H s d)(q:di H H'):iR Z C S K H' s d:=by obtain⟨c,v,e,f⟩:=b.ob;exact⟨⟨c,v,q _ _ e,f.same q⟩,q _ _ b.ek,b.kn.map (λa p⟨t,h⟩=>⟨t,h.kt (di.kt q)⟩),q _ _ b.et,b.tr.map (λ_ _ h=>h.same q),q _ _ b.ec,b.nm,b.nk,b.dj,b.nh,b.nt,b.n1,b.n2,b.n3⟩
theorem Cv(h:TD d):pP d=true:=by
 induction h with
 |str _ _=>rfl
 |int _ _=>rfl
 |nil=>rfl
 | @node f r _ _ _ _ a=>
   have:∀l:List PyData,(∀e∈l,pP e=true)->q_ l=true:=λl=>by
    induction l with
    |nil=>intro _;rfl
    |cons x t b=>intro h;show(pP x&&q_ t)=true;rw[h x (aal ..),b λe m=>h e (aah _ m)];rfl
   show(pP (.str f)&&q_ r)=true;rw[this r a];rfl
noncomputable def Yc(b:Bool)(tk sz:Int)(n:Ln):Ln:=if b=true then yt tk n else vG tk sz n
inductive Oh(Z:LC)(C S:Zl)(K:Zs)(vs:List V)(H:Hp)(Q:VK)(E:XK):Prop
 |mk (s:SA) (d:Sd) (h:Zl) (nm:Str) (i j:Nat) (t:TA) (p:Str×Tk) (q:Str×List ji) (m:Cl):vs=[.ref s.a,.ref h]->gf K H h [.str nm]->iR Z C S K H s d->s.ts[i]?=some t->d.tr[i]?=some p->p.1=nm->TD p.2.ts->jx p.2.ts=true->d.halt=.none->d.kn[j]?=some q->q.2.length<=4->t.k.cs.length<=900->p.2.ln.pg.length<=900->((iu p.2.ln).map (·.tk)).Nodup->wait p.2.ln=[m]->m.nm=q.1->m.fi=q.2->m.vs.length=q.2.length->(∀s' H',iR Z C S K H' s' (d.put i p (Yc (n6 q.1 q.2 m.vs p.2.ts) m.tk (1+(q.2.length:Int)) p.2.ln))->Fr s s' H H'->Q (.bl (n6 q.1 q.2 m.vs p.2.ts)) H')->Oh Z C S K vs H Q E
def xJ:du ["stand","handed","track","ticket","time","kind","values","form","tally"] ["stand","handed"] (b_ (top 96)):=by ext
theorem T6(F:ir K "do_give" "do_give" (top 96) f fd)(L:LZ K mg Z)(TZ:TZ K mg C)(SZ:SZ K mg S)(ne:xu Z C S)(cn:Nq Z C)
 (MT:MD K S "track_of" "Stand.track_of" (sM 1) ["self","name"] fT fdT)(MK:MD K S "kind_of" "Stand.kind_of" (sM 2) ["self","name"] fK fdK)
 (MP:MD K C "top" "Track.top" (tM 1) ["self"] fP fdP)(GP:dm P w K mg base dU 4 fP fdP ["self"] (Bm Z C K))
 (ME:MD K Z.l "event" "Lane.event" (lM 17) ["self","ticket"] fE fdE)(GE:dm P w K mg base dU 4 fE fdE ["self","ticket"] (Pu Z))
 (MG:MD K Z.l "give" "Lane.give" (lM 10) ["self","ticket"] fG fdG)(GG:dm P w K mg base dU 5 fG fdG ["self","ticket"] (QV Z))
 (MH:MD K Z.l "throw" "Lane.throw" (lM 11) ["self","ticket"] fH fdH)(GH:dm P w K mg base dU 5 fH fdH ["self","ticket"] (Qd Z))
 (DS:gq K mg "passes" (top 75) ["test","kind","values"] fS fdS)(DL:gq K mg "passes_leaf" (top 76) ["leaf","kind","values"] fL fdL)(GL:dm P w K mg base dU 2 fL fdL ["leaf","kind","values"] (Kg K Z.k)):dm P w K mg base dU 8 f fd ["stand","handed"] (Oh Z C S K):=by
 have GT:dm P w K mg base dU 1 fT fdT ["self","name"] (n8 Z C S K):=mL MT.F SZ;have GK:dm P w K mg base dU 1 fK fdK ["self","name"] (Bh Z C S K):=IV MK.F SZ;have GS:dm P w K mg base dU 7 fS fdS ["test","kind","values"] (Mu K Z.k 5):=Vc DS DL GL 5;refine F.ok xJ (by ext) λD A ag s H vs Q E hr h=>?_;obtain⟨g,d,h,nm,i,j,t,p,B,m,rfl,sq,M,N,hp,rfl,td,O,al,hj,fl,tl,pl,nd,U,am,ao,vl,q⟩:=h;have X:eZ 1 _:=hr.mono (by decide);have Y:eZ 4 _:=hr.mono (by decide);have aa:eZ 5 _:=hr.mono (by decide);have aj:eZ 7 _:=hr.mono (by decide);refine⟨_,(bK (jj 2 xJ.nd (eO (E:=E0) (pv 0) SZ.c MT.M GT X MT.b .nil dR (aK (dZ eU (pv 1) dh) cZ))) (bK (jj 3 xJ.nd (gb (E:=E0) (pv 2) TZ.c MP.M GP Y MP.b .nil dR)) (bK (lY (eO (E:=E0) (dq (pv 2) rfl) L.lc ME.M GE Y ME.b .nil dR (aK (pv 3) cZ)) (iy rfl (dJ (jP 4 xJ.nd) (dJ (jP 5 xJ.nd) (dJ (jP 6 xJ.nd) gP))))) (bK (jj 7 xJ.nd (eO (E:=E0) (pv 0) SZ.c MK.M GK X MK.b .nil dR (aK (pv 5) cZ))) (bK (eX (jm (iT (iJ DS GS aj (aK (dq (pv 2) rfl) (aK (pv 7) (aK (pv 6) cZ)))))) (bK (fc (eO (E:=E0) (dq (pv 2) rfl) L.lc MH.M GH aa MH.b .nil dR (aK (pv 3) cZ))) (d8 (dw lD))) dI) (bK (fc (eO (E:=E0) (dq (pv 2) rfl) L.lc MG.M GG aa MG.b .nil dR (aK (pv 3) cZ))) (bK (QK (j6 aaO rfl (uJ (wg acQ PySem.F.type_dict_values u_ (dq (pv 0) rfl))) (jP 8 xJ.nd) (d8 gj))) (bK (eX (PW.pt (oK (dM Cy (dq (pv 0) rfl) l_ (dN _)) (mQ (iT O7)))) (d8 gj) dI) (d8 (dw lD)))))))))),?_⟩;obtain⟨dx,v,e,rv⟩:=M.ob;obtain⟨p0,af,tk⟩:=M.tr.at N;rw[hp]at af;cases af;obtain⟨dT,vT,eT,rT⟩:=id tk.ob;obtain⟨dl,el⟩:=tk.ln.ob;refine⟨_,rfl,g.a,dx,_,rfl,e,rfl,_,rfl,h,_,_,_,rfl,rfl,sq,rfl,g,d,p.1,i,t,p,rfl,M,N,hp,rfl,?_⟩;refine⟨_,rfl,t.a,dT,_,rfl,eT,rfl,t,p.2,[],m,rfl,tk,tl,pl,U,λH1 s1=>?_⟩;refine⟨_,rfl,t.a,C,dT,_,_,rfl,s1 _ _ eT,TZ.c,TZ.t1,rfl,t.k.a,dl,_,rfl,s1 _ _ el,rfl,_,rfl,t.k,p.2.ln,m.tk,rfl,tk.ln.same s1,tl,pl,⟨m,by rw[U];simp,rfl⟩,λx y m' H2 s2 mm em ex ey=>?_⟩;rw[U]at mm;cases aam.mp mm;have T:=s1.trans s2;refine⟨x,_,rfl,gf.of ex,rfl,_,_,rfl,_,_,rfl,_,_,rfl,rfl,?_⟩;obtain⟨ak,ap,aq,au⟩:=M.kn.at' hj;refine⟨_,rfl,g.a,dx,_,rfl,T _ _ e,rfl,_,rfl,g,d,m.nm,j,ak,B,rfl,M.same T,ap,hj,am.symm,?_⟩;obtain⟨f,r,W⟩:=ju td (by unfold jx at O;simp only[aaK]at O;exact O.1);obtain⟨q0,av⟩:∃q0,vT=.ref q0:=by rw[W]at rT;cases rT with|@tup a _ _ _ _=>exact⟨a,rfl⟩
 subst av;have b5:gK p.2.ts=true/\iD p.2.ts<=5:=by unfold jx at O;simp only[aaK,abi]at O;exact⟨O.1,O.2.1⟩
 refine⟨_,rfl,t.a,C,dT,_,_,rfl,T _ _ eT,TZ.c,TZ.t3,rfl,_,rfl,_,rfl,q0,ak,aq,y,f,B.1,r,B.2,m.vs,rfl,⟨by rw[<-W];exact rT.same T,by rw[<-W];exact td,by rw[<-W];exact b5.1,by rw[<-W];exact b5.2,au.same T,fl,ey,vl⟩,λR s3=>?_⟩;have I:=T.trans s3;have pT:ie B.1 B.2 m.vs 5 f r=n6 B.1 B.2 m.vs p.2.ts:=by rw[W];rfl
 rw[pT];have hs:({g with ts:=g.ts.set i ⟨t.a,t.k⟩}:SA)=g:=by have:g.ts.set i ⟨t.a,t.k⟩=g.ts:=kZ N;rw[this]
 cases hb:n6 B.1 B.2 m.vs p.2.ts with
 | false=>rw[hb]at q;refine⟨_,rfl,j5 rfl ?_⟩;refine⟨_,rfl,t.a,C,dT,_,_,rfl,I _ _ eT,TZ.c,TZ.t1,rfl,t.k.a,dl,_,rfl,I _ _ el,rfl,_,rfl,t.k,p.2.ln,m.tk,1+(B.2.length:Int),rfl,tk.ln.same I,tl,pl,⟨[],m,U,rfl⟩,(λc mc _=>by rw[U]at mc;cases aam.mp mc;rw[ao]),λk' H4 ah mv _=>?_⟩;have n:=(Mv.same (Z:=Z) (k:=t.k) I).trans mv;exact q _ H4 (M.move L.ok ne cn N hp n ah) (n.frm N)
 |true=>
 rw[hb]at q;refine⟨_,rfl,gW rfl ?_⟩;refine⟨_,rfl,t.a,C,dT,_,_,rfl,I _ _ eT,TZ.c,TZ.t1,rfl,t.k.a,dl,_,rfl,I _ _ el,rfl,_,rfl,t.k,p.2.ln,m.tk,rfl,tk.ln.same I,tl,pl,nd,⟨[],m,U,rfl⟩,λR ai mv=>?_⟩;have n:=(Mv.same (Z:=Z) (k:=t.k) I).trans mv;have l:=M.move L.ok ne cn N hp n ai;have ab:=n.frm N;rw[hs]at l ab;obtain⟨d3,v3,e3,r3⟩:=l.ob;refine⟨g.dc,[],l.ec,λo=>?_⟩;have na:g.a≠g.dc:=λz=>by have:=l.ec;rw[<-z,e3]at this;cases this
 refine⟨_,rfl,g.a,S,d3,_,_,rfl,(by rw[c7 na];exact e3),SZ.c,SZ.s5,rfl,⟨g.dc,o,[],rfl,a_⟩,g.dc,o,[],rfl,rfl,a_,λvw J=>?_⟩;have nv:g.dc≠vw:=dg a_ J;have ac:R vw=none:=by rw[c7 nv.symm]at J;exact J
 refine⟨vw,g.dc,o,[],rfl,a_,(by rw[c7 nv];exact a_),?_⟩;have S5:di R (upd (upd (upd R g.dc (.frz o (.dK []))) vw (ou vw g.dc)) g.dc (.dK [])):=λb u eb=>by
  by_cases z:b=g.dc
  ·subst z;rw[l.ec]at eb;cases eb;exact a_
  ·rw[c7 z,c7 (dg eb ac),c7 z];exact eb
 refine zT (λj G H'=>(∃v,G=_)/\H'=upd (upd R g.dc (.frz o (.dK []))) vw (ou vw g.dc)) ⟨⟨(),rfl⟩,rfl⟩ (λj G H' _ z=>by rw[z.2,c7 nv];exact a_) (λj x G H' hx _=>by simp at hx) ?_;rintro G H'⟨⟨_,rfl⟩,rfl⟩;refine⟨by rw[c7 nv];exact a_,?_⟩;have ad:=l.same S5;have ae:=ab.trans (Fr.same S5);generalize upd (upd (upd R g.dc (.frz o (.dK []))) vw (ou vw g.dc)) g.dc (.dK [])=H5 at ad ae S5;have rh:v3=.non:=by have:=r3;unfold Sd.put at this;dsimp only at this;rw[al]at this;cases this;rfl
 subst rh;refine⟨_,rfl,g.a,S,d3,_,_,rfl,S5 _ _ e3,SZ.c,SZ.s7,rfl,rfl,_,rfl,gW rfl (gW rfl ?_)⟩;exact q _ _ ad ae
end
def pC{n:Ln}(ne:n.pg≠[]):∃r h,n.pg=r++[h]/\n.pg[n.pg.length-1]?=some h:=by
 rcases acW n.pg with e|⟨r,h,e⟩
 ·exact absurd e ne
 ·rw[acX]at e;exact⟨r,h,e,by rw[e];simp⟩
def Ih(e:n.pg=r++[h]):sI c z n={n with pg:=r++[{h with cs:=h.cs++[c],us:=h.us+z}]}:=by
 have a:n.pg[n.pg.length-1]?=some h:=by rw[e];simp
 unfold sI;rw[a];show({n with pg:=n.pg.set (n.pg.length-1) _}:Ln)=_;rw[e];simp
noncomputable def idx:Int->List Cl->List (Int×Cl)
 |_,[]=>[]
 |q,c::r=>(q,c)::idx (q+1) r
noncomputable def evs(a:List (Int×Cl)):List Tg:=a.map λe=>.ev e.1 e.2
theorem lK:∀(q:Int)(a:List Cl),(idx q a).length=a.length
 |_,[]=>rfl
 |q,c::r=>by rw[idx,aav,aav,lK (q+1) r]
theorem wL:∀(q:Int)(a ys:List Cl),idx q (a++ys)=idx q a++idx (q+a.length) ys
 |q,[],ys=>by simp[idx]
 | q,c::r,ys=>by rw[ac1,idx,wL (q+1) r ys,idx,ac1,aav];congr 3;omega
theorem qZ:∀(cs:List Cl)(q:Int),(∀c∈cs,c.gv=true)->lG f cs q=idx q cs++f (q+cs.length)
 |[],q,_=>by simp[lG,idx]
 | c::cs,q,h=>by rw[lG,aac (h c (aal ..)),qZ cs (q+1) λx m=>h x (aah _ m),idx,ac1,aav];congr 3;omega
theorem sX:∀(a:List Pg) (q:Int),(∀p∈a,p.go=0)->(∀c∈a.flatMap (·.cs),c.gv=true)->kW a q=idx q (a.flatMap (·.cs))
 |[],_,_,_=>rfl
 | p::r,q,h,g=>by rw[aaA]at g|-;rw[kW,qZ p.cs _ λc m=>g c (aak.mpr (.inl m)),wL,h p (aal ..),Int.add_zero,sX r _ (λp m=>h p (aah _ m)) λc m=>g c (aak.mpr (.inr m))]
theorem uy:∀(q:Int)(a:List Cl),lQ q (idx q a)=evs (idx q a)
 |_,[]=>rfl
 | q,c::r=>by rw[idx,lQ,aab (by omega),aac rfl,uy (q+1) r];rfl
theorem Hz{f:List Cl->List Cl}:∀{a:List Pg},(∀p∈a,f p.cs=p.cs)->(a.map λp=>({p with cs:=f p.cs}:Pg))=a
 |[],_=>rfl
 | p::r,h=>by rw[aat,Hz λx m=>h x (aah _ m),h p (aal ..)]
structure Hx(fs:List ji)(tm:Int)(zs:List Int)(n:Ln):Prop where
 co:Tt n tm
 mo:(n.pg.length:Int)-wZ n<n.most
 wt:wait n=[]
 pl:n.pg.length<=800
 cl:(iu n).length<=800
 nd:((iu n).map (·.tk)).Nodup
 lt:∀c∈iu n,c.tk<=n.tks
 fz:Pd ug fs zs
noncomputable def xf(c:Cl)(sz:Int)(r:List Pg)(h:Pg)(n:Ln):Ln:={n with last:=some c.tm,tks:=n.tks+1,pg:=r++[{h with cs:=h.cs++[c],us:=h.us+sz}]}
noncomputable def R6(nm:Str)(fs:List ji)(a:Int)(c:List Int)(n:Ln)(r:List Pg)(h:Pg)(b:Bool):Ln:=
 if b=true then{xf {gh (n.tks+1) a nm fs with vs:=c,gv:=true} (1+(fs.length:Int)) r h n with giv:=n.giv+1}else{n with last:=some a,tks:=n.tks+1,pg:=r++[h],thr:=n.thr+1}
noncomputable def Wu(fs:List ji)(n:Ln)(r:List Pg)(h:Pg):Prop:=(n.pg=r++[h]/\h.us+(1+(fs.length:Int))<=n.room)\/(n.pg=r/\h=⟨[],0,0⟩/\n.room<Lx n+(1+(fs.length:Int)))
section
variable{nm:Str}{fs:List ji}{tm:Int}{zs:List Int}{n:Ln}
def Er(w:Hx fs tm zs n):∃r h,n7 nm fs tm n=(some (n.tks+1),xf (gh (n.tks+1) tm nm fs) (1+(fs.length:Int)) r h n)/\iu n=(r++[h]).flatMap (·.cs)/\r.length<=800/\Wu fs n r h:=by
 obtain⟨r,h,e,f⟩:=pC w.co.ne;have c:Lx n=h.us:=by unfold Lx;rw[f];rfl
 have hu1:Lx {n with last:=some tm,tks:=n.tks+1}=h.us:=c;have d:=w.pl;have g:r.length+1=n.pg.length:=by rw[e];simp
 by_cases b:h.us+(1+(fs.length:Int))<=n.room
 ·have a:iM (1+(fs.length:Int)) {n with last:=some tm,tks:=n.tks+1}=(true,{n with last:=some tm,tks:=n.tks+1}):=by unfold iM;rw[hu1];exact aac b
  refine⟨r,h,?_,by unfold iu;rw[e],by omega,.inl ⟨e,b⟩⟩;unfold n7;dsimp only;rw[a,aac rfl,Ih (n:={n with last:=some tm,tks:=n.tks+1}) e];rfl
 ·have a:iM (1+(fs.length:Int)) {n with last:=some tm,tks:=n.tks+1}=(true,o9 {n with last:=some tm,tks:=n.tks+1}):=by unfold iM;rw[hu1];exact(aab b).trans (aab (Int.not_le.mpr w.mo))
  refine⟨n.pg,⟨[],0,0⟩,?_,by unfold iu;simp,d,.inr ⟨rfl,rfl,by rw[c];omega⟩⟩;unfold n7;dsimp only;rw[a,aac rfl,Ih (n:=o9 {n with last:=some tm,tks:=n.tks+1}) (r:=n.pg) (h:=⟨[],0,0⟩) rfl];rfl
theorem HH{f:List Cl->List Cl}(e:f []=[])(g:∀a b,f (a++b)=f a++f b):∀d:List Cl,(∀c∈d,f [c]=[c])->f d=d
 |[],_=>e
 | c::r,h=>by rw[<-List.singleton_append,g,h c (aal ..),HH e g r λx m=>h x (aah _ m)]
def Bf{f:List Cl->List Cl}{r:List Pg}{h:Pg}{u:Int}{c:Cl}(i:f []=[])(g:∀a b,f (a++b)=f a++f b)(d:∀c∈(r++[h]).flatMap (·.cs),f [c]=[c]):
 (r++[({h with cs:=h.cs++[c],us:=u}:Pg)]).map (λp=>({p with cs:=f p.cs}:Pg))=r++[({h with cs:=h.cs++f [c],us:=u}:Pg)]:=by
 rw[aaw,Hz λp m=>HH i g _ λc e=>d c (aaM.mpr ⟨p,aaY _ m,e⟩)];show r++[({h with cs:=f (h.cs++[c]),us:=u}:Pg)]=_;rw[g,HH i g h.cs λc e=>d c (aaM.mpr ⟨h,by simp,e⟩)]
theorem Mg(lt:∀c∈(r++[h]).flatMap (·.cs),c.tk<=n.tks):
 Yc b (n.tks+1) (1+(fs.length:Int)) (lR (n.tks+1) zs (xf (gh (n.tks+1) tm nm fs) (1+(fs.length:Int)) r h n))=R6 nm fs tm zs n r h b:=by
 have ne:∀c∈(r++[h]).flatMap (·.cs),¬c.tk=n.tks+1:=λc m z=>by have:=lt c m;omega
 have d:lR (n.tks+1) zs (xf (gh (n.tks+1) tm nm fs) (1+(fs.length:Int)) r h n)=xf {gh (n.tks+1) tm nm fs with vs:=zs} (1+(fs.length:Int)) r h n:=by unfold lR xf;dsimp only;rw[Bf (f:=λcs=>cs.map (jd (n.tks+1) zs)) rfl (λa b=>aaw ..) λc m=>by show[jd _ _ c]=_;rw[jd,aab (ne c m)]];show({n with last:=_,tks:=_,pg:=r++[({h with cs:=h.cs++[jd (n.tks+1) zs (gh (n.tks+1) tm nm fs)],us:=_}:Pg)]}:Ln)=_;rw[show jd (n.tks+1) zs (gh (n.tks+1) tm nm fs)={gh (n.tks+1) tm nm fs with vs:=zs}from aac rfl]
 rw[d];unfold Yc R6;cases b with
 | true=>rw[aac rfl,aac rfl];unfold yt xf;dsimp only;rw[Bf (f:=λcs=>cs.map (mz (n.tks+1))) rfl (λa b=>aaw ..) λc m=>by show[mz _ c]=_;rw[mz,aab (ne c m)]];show({n with last:=_,tks:=_,pg:=r++[({h with cs:=h.cs++[mz (n.tks+1) {gh (n.tks+1) tm nm fs with vs:=zs}],us:=_}:Pg)],giv:=_}:Ln)=_;rw[show mz (n.tks+1) {gh (n.tks+1) tm nm fs with vs:=zs}={gh (n.tks+1) tm nm fs with vs:=zs,gv:=true}from aac rfl]
 | false=>
   rw[aab (by decide),aab (by decide)];unfold vG mZ xf;dsimp only;have e:(r++[({h with cs:=h.cs++[{gh (n.tks+1) tm nm fs with vs:=zs}],us:=h.us+(1+(fs.length:Int))}:Pg)])[(r++[({h with cs:=h.cs++[{gh (n.tks+1) tm nm fs with vs:=zs}],us:=h.us+(1+(fs.length:Int))}:Pg)]).length-1]?=some {h with cs:=h.cs++[{gh (n.tks+1) tm nm fs with vs:=zs}],us:=h.us+(1+(fs.length:Int))}:=by simp
   rw[e];dsimp only;rw[aac (show lZ _=_ by unfold lZ;simp[gh]),show∀p:Pg,(r++[p]).length-1=r.length fromλp=>by simp,List.set_append_right _ _ (aaf _),Nat.sub_self,abB,show h.us+(1+(fs.length:Int))-(1+(fs.length:Int))=h.us by omega];unfold Fe;rw[Bf (f:=Ru (n.tks+1)) rfl (λa b=>abj ..) λc m=>by unfold Ru;simp[ne c m],show Ru (n.tks+1) [{gh (n.tks+1) tm nm fs with vs:=zs}]=[] by unfold Ru;simp[gh],aaQ];rfl
def Gk(w:Hx fs tm zs n)(e:iu n=(r++[h]).flatMap (·.cs)):
 iu (xf (gh (n.tks+1) tm nm fs) sz r h n)=iu n++[gh (n.tks+1) tm nm fs]/\((iu (xf (gh (n.tks+1) tm nm fs) sz r h n)).map (·.tk)).Nodup/\wait (xf (gh (n.tks+1) tm nm fs) sz r h n)=[gh (n.tks+1) tm nm fs]:=by
 have f:iu (xf (gh (n.tks+1) tm nm fs) sz r h n)=iu n++[gh (n.tks+1) tm nm fs]:=by rw[e];unfold iu xf;simp[aaU]
 have i:∀(d:List Pg),(d.flatMap λp=>vR p.cs)=vR (d.flatMap (·.cs)):=λd=>by
  induction d with
  |nil=>rfl
  |cons p d o=>rw[aaA,aaA,o];unfold vR;rw[abj]
 refine⟨f,?_,?_⟩
 ·rw[f,aaw];refine aa9.mpr ⟨w.nd,by simp,λa l b g z=>?_⟩;obtain⟨c,m,rfl⟩:=aap.mp l;have g:b=n.tks+1:=by simpa[gh]using g
  have:=w.lt c m;omega
 ·have j:vR (iu n)=[]:=by have:=w.wt;unfold wait at this;rw[i]at this;exact this
  unfold wait;rw[i];show vR (iu (xf (gh (n.tks+1) tm nm fs) sz r h n))=_;rw[f];unfold vR at j|-;rw[abj,j];rfl
end
section
variable{P:ZE}{w:ZH}{K:Zs}{mg:Y1}{base:ZN}{Z:LC}{C S:Zl}{H H' H'':Hp}
def eE.cs_len(d:eE Z H k n):k.cs.length=(iu n).length:=by
 have:∀{a:List PA}{b:List Pg},Pd (iZ Z H) a b->(a.flatMap (·.cs)).length=(b.flatMap (·.cs)).length:=by
  intro a b h;induction h with
  |nil=>rfl
  |cons r _ c=>rw[aaA,aaA,aas,aas,c,r.cs.len]
 exact this d.pg
def iR.cs_len{s:SA}{d:Sd}{i:Nat}{t:TA}{p:Str×Tk}(b:iR Z C S K H s d)(c:s.ts[i]?=some t)(e:d.tr[i]?=some p):t.k.cs.length=(iu p.2.ln).length:=by obtain⟨f,a,tk⟩:=b.tr.at c;rw[e]at a;cases a;exact tk.ln.cs_len
def Cz{d:Sd}:(d.put i p n).put i (p.1,{p.2 with ln:=n}) a=d.put i p a:=by unfold Sd.put;dsimp only;rw[List.set_set]
def zN{d:Sd}(a:d.tr[i]?=some p):(d.put i p n).tr[i]?=some (p.1,{p.2 with ln:=n}):=by unfold Sd.put;dsimp only;rw[abk,aac rfl,aac (aar.mp a).1]
def iR.here(c:iR Z C S K H s d)(m:b∈s.all):(∃C g fs,H b=some (.ins C g fs))\/(∃j,H b=some (.lst j))\/∃a,H b=some (.dK a)/\(a.length<=d.kn.length\/a.length<=d.tr.length):=by
 rcases aai.mp m with h|m
 ·obtain⟨_,_,e,_⟩:=c.ob;rw[h];exact .inl ⟨_,_,_,e⟩
 rcases aai.mp m with h|m
 ·rw[h];exact .inr (.inr ⟨_,c.ek,.inl (by unfold El;simp;omega)⟩)
 rcases aai.mp m with h|m
 ·rw[h];exact .inr (.inr ⟨_,c.et,.inr (by unfold lN;simp;omega)⟩)
 rcases aai.mp m with h|m
 ·rw[h];exact .inr (.inr ⟨_,c.ec,.inl (aaJ _)⟩)
 obtain⟨t,l,f⟩:=aaM.mp m;obtain⟨i,n⟩:=aax.mp l;obtain⟨q,_,tk⟩:=c.tr.at n;rcases aai.mp f with h|f
 ·obtain⟨_,_,e,_⟩:=tk.ob;rw[h];exact .inl ⟨_,_,_,e⟩
 ·rcases aak.mp f with h|h
  ·exact .inl (tk.ln.own_ls h)
  ·exact .inr (.inl (tk.ln.has_ls h))
def iR.no_tup(a:iR Z C S K H s d)(e:H b=some (.tup c)):b∉s.all:=by intro m;rcases a.here m with⟨_,_,_,h⟩|⟨_,h⟩|⟨_,h,_⟩<;>(rw[e]at h;cases h)
theorem uK:∀(a:List Pg),(a.map λp=>({p with cs:=p.cs.map (jd tk b)}:Pg)).flatMap (·.cs)=(a.flatMap (·.cs)).map (jd tk b)
 |[]=>rfl
 |p::a=>by rw[aat,aaA,aaA,aaw,uK a]
def Bu:(jd tk a c).tk=c.tk/\(jd tk a c).nm=c.nm/\(jd tk a c).gv=c.gv:=by unfold jd;split<;>exact⟨rfl,rfl,rfl⟩
theorem xm:∀(b:List Pg),(b.map λp=>({p with cs:=p.cs.map (jd tk a)}:Pg)).flatMap (λp=>vR p.cs)=(b.flatMap λp=>vR p.cs).map (jd tk a)
 |[]=>rfl
 | p::b=>by
   rw[aat,aaA,aaA,aaw,xm b];have:vR (p.cs.map (jd tk a))=(vR p.cs).map (jd tk a):=by unfold vR;rw[List.filter_map];congr 1;exact List.filter_congr λc _=>by show(!(jd tk a c).gv)=_;rw[Bu.2.2]
   rw[this]
inductive J_(Z:LC)(C S:Zl)(K:Zs)(vs:List V)(H:Hp)(Q:VK)(E:XK):Prop
 |mk (s:SA) (d:Sd) (h b:Zl) (nm kd:Str) (i j:Nat) (t:TA) (p:Str×Tk) (q:Str×List ji) (zs:List Int):vs=[.ref s.a,.ref h]->gf K H h [.str nm,.str kd,.ref b]->H b=some (.tup (zs.map V.int))->iR Z C S K H s d->s.ts[i]?=some t->d.tr[i]?=some p->p.1=nm->d.kn[j]?=some q->q.1=kd->d.still=false->d.halt=.none->tO q.1 q.2->Hx q.2 p.2.ck zs p.2.ln->TD p.2.ts->jx p.2.ts=true->(∀r h s' H',Wu q.2 p.2.ln r h->iR Z C S K H' s' (d.put i p (R6 q.1 q.2 p.2.ck zs p.2.ln r h (n6 q.1 q.2 zs p.2.ts)))->Fr s s' H H'->Q (.bl (n6 q.1 q.2 zs p.2.ts)) H')->J_ Z C S K vs H Q E
def Ld:du ["stand","handed","name","kind","values"] ["stand","handed"] (b_ (top 98)):=by ext
def V5{f fC fF fG:Zl}{fd O R T:ZB}(F:ir K "do_write" "do_write" (top 98) f fd)
 (DC:gq K mg "do_claim" (top 94) ["stand","handed"] fC O)(GC:dm P w K mg base dU 9 fC O ["stand","handed"] (Qh Z C S K))
 (DF:gq K mg "do_fill" (top 95) ["stand","handed"] fF R)(GF:dm P w K mg base dU 5 fF R ["stand","handed"] (Ou Z C S K))
 (DG:gq K mg "do_give" (top 96) ["stand","handed"] fG T)(GG:dm P w K mg base dU 8 fG T ["stand","handed"] (Oh Z C S K)):dm P w K mg base dU 10 f fd ["stand","handed"] (J_ Z C S K):=by
 refine F.ok Ld (by ext) λJ A X s H vs Q E Y h=>?_;obtain ⟨l,d,h,b,nm,kd,i,j,t,p,r,a,rfl,sq,hb,st,ht,U,rfl,hj,rfl,hs,af,ko,B,td,te,q⟩:=h;have aa:eZ 5 _:=Y.mono (by decide);have ab:eZ 8 _:=Y.mono (by decide);refine ⟨_,(bK (lY (pv 1) (iy rfl (dJ (jP 2 Ld.nd) (dJ (jP 3 Ld.nd) (dJ (jP 4 Ld.nd) gP))))) (bK (eX (dM wX (iJ DC GC Y (aK (pv 0) (aK (gw (aK (pv 2) (aK (pv 3) cZ))) cZ))) l_ (dN _)) (d8 gj) dI) (bK (fc (iJ DF GF aa (aK (pv 0) (aK (gw (aK (pv 2) (aK (pv 4) cZ))) cZ)))) (d8 (dw (iJ DG GG ab (aK (pv 0) (aK (gw (aK (pv 2) cZ)) cZ)))))))),?_⟩;refine ⟨_,rfl,h,_,rfl,sq,rfl,_,_,rfl,_,_,rfl,_,_,rfl,rfl,?_⟩;refine ⟨_,rfl,_,rfl,_,rfl,(by ext),λx hx=>?_⟩;have sx:=di.new (o:=.tup [.str p.1,.str r.1]) hx;refine ⟨l,d,x,p.1,r.1,i,j,t,p,r,rfl,gf.of a_,st.same sx,ht,U,rfl,hj,rfl,hs,ko,B.co,λg H1 I f1=>?_⟩;have F1:=(Fr.same (s:=l) sx).trans f1;obtain ⟨pr,ph,ec,N,pl,ag⟩:=Er (nm:=r.1) B;rw [ec]at I|-;refine ⟨rfl,_,rfl,gW rfl ?_⟩;generalize G:xf (gh (p.2.ln.tks+1) p.2.ck r.1 r.2) (1+(r.2.length:Int)) pr ph p.2.ln=e at I;have I:iR Z C S K H1 {l with ts:=l.ts.set i ⟨t.a,g⟩} (d.put i p e):=I;obtain ⟨c1,D,W⟩:=Gk (nm:=r.1) (sz:=1+(r.2.length:Int)) (r:=pr) (h:=ph) B N;rw [G]at c1 D W;have il:i<l.ts.length:=(aar.mp ht).1;have v:(l.ts.set i ⟨t.a,g⟩)[i]?=some ⟨t.a,g⟩:=by rw [abk,aac rfl,aac il]
 have ac:H1 b=some (.tup (a.map V.int)):=F1.kp b _ hb (st.no_tup hb);have L:e.pg.length<=900:=by rw [<-G];unfold xf;simp;omega
 have ah:=B.cl;refine ⟨_,rfl,_,rfl,_,rfl,(by ext),λy hy=>?_⟩;have sy:=di.new (o:=.tup [.str p.1,.ref b]) hy;have M:g.cs.length<=900:=by have:=I.cs_len v (zN U);rw [show (⟨t.a,g⟩:TA).k=g from rfl,c1]at this;simp at this;omega
 refine ⟨{l with ts:=l.ts.set i ⟨t.a,g⟩},d.put i p e,y,b,p.1,i,⟨t.a,g⟩,(p.1,{p.2 with ln:=e}),[],gh (p.2.ln.tks+1) p.2.ck r.1 r.2,a,rfl,gf.of a_,sy _ _ ac,I.same sy,v,zN U,rfl,M,L,D,W,λc mc _=>?_,λH2 s2 f2=>?_⟩
 ·rw [W]at mc;cases aam.mp mc;exact B.fz
 have F2:=(F1.trans (Fr.same sy)).trans f2;rw [Cz]at s2;have c2:iu (lR (gh (p.2.ln.tks+1) p.2.ck r.1 r.2).tk a e)=(iu e).map (jd (p.2.ln.tks+1) a):=uK e.pg;have w2:wait (lR (gh (p.2.ln.tks+1) p.2.ck r.1 r.2).tk a e)=[{gh (p.2.ln.tks+1) p.2.ck r.1 r.2 with vs:=a}]:=by have:wait (lR (gh (p.2.ln.tks+1) p.2.ck r.1 r.2).tk a e)=(wait e).map (jd (p.2.ln.tks+1) a):=xm e.pg;rw [this,W];exact aaB (λc=>[c]) (aac rfl)
 have ad:((iu (lR (gh (p.2.ln.tks+1) p.2.ck r.1 r.2).tk a e)).map (·.tk)).Nodup:=by rw [c2,aby];have:((λc:Cl=>c.tk)∘jd (p.2.ln.tks+1) a)=λc:Cl=>c.tk:=funext λc=>Bu.1;rw [this];exact D
 have ae:(lR (gh (p.2.ln.tks+1) p.2.ck r.1 r.2).tk a e).pg.length<=900:=by unfold lR;simpa using L
 refine ⟨_,rfl,_,rfl,(by ext),λz hz=>?_⟩;have sz:=di.new (o:=.tup [.str p.1]) hz;refine ⟨{l with ts:=l.ts.set i ⟨t.a,g⟩},d.put i p (lR (gh (p.2.ln.tks+1) p.2.ck r.1 r.2).tk a e),z,p.1,i,j,⟨t.a,g⟩,(p.1,{p.2 with ln:=lR (gh (p.2.ln.tks+1) p.2.ck r.1 r.2).tk a e}),r,{gh (p.2.ln.tks+1) p.2.ck r.1 r.2 with vs:=a},rfl,gf.of a_,s2.same sz,v,zN U,rfl,td,te,af,hj,ko.le,M,ae,ad,w2,rfl,rfl,B.fz.len.symm,λs3 H3 m f3=>?_⟩;rw [Cz,<-G,show (gh (p.2.ln.tks+1) p.2.ck r.1 r.2).tk=p.2.ln.tks+1 from rfl]at m;dsimp only [gh]at m;have g3:=Mg (nm:=r.1) (fs:=r.2) (tm:=p.2.ck) (zs:=a) (n:=p.2.ln) (b:=n6 r.1 r.2 a p.2.ts) (by rw [<-N];exact B.lt);dsimp only [gh]at g3;rw [g3]at m;exact q pr ph _ _ ag m ((F2.trans (Fr.same sz)).trans f3)
def Fr.upd(m:b∈s.all):Fr s s H (upd H b o):=by
 refine⟨λc u e n=>by rw[c7 (λz=>n (by rw[z];exact m))];exact e,λc m=>.inl m,λc e=>?_,rfl⟩;by_cases z:c=b
 ·subst z;rw[a_]at e;cases e
 ·rw[c7 z]at e;exact e
def iR.setT(ne:xu Z C S)(A:Nq Z C)(c:iR Z C S K H s d)(l:s.ts[i]?=some t)(D:d.tr[i]?=some p)(Y:Rep K H v p'.2.ts)(I:p'.1=p.1)(e2:p'.2.ln=p.2.ln)(nl:pP p'.2.ts=true):
 iR Z C S K (upd H t.a (.ins C dx (Dk t.k.a p'.2.ck v))) s {d with tr:=d.tr.set i p'}/\Fr s s H (upd H t.a (.ins C dx (Dk t.k.a p'.2.ck v))):=by
 obtain⟨p0,g,tk⟩:=c.tr.at l;rw[D]at g;cases g;obtain⟨dT,vT,G,_⟩:=tk.ob;obtain⟨B,Q,e,R⟩:=c.ob;have cs:xu Z S C:=⟨A.k.symm,A.c.symm,A.p.symm,A.l.symm,ne.t.symm⟩;have sd:gQ C H (upd H t.a (.ins C dx (Dk t.k.a p'.2.ck v))):=gQ.put G (.inr ⟨_,_,rfl⟩);have E:∀{b o},H b=some o->(∀M N,o≠.ins C M N)->upd H t.a (.ins C dx (Dk t.k.a p'.2.ck v)) b=some o:=λh n=>by rw[c7 (λz=>by rw[z,G]at h;cases h;exact n _ _ rfl)];exact h
 have dk:∀{b f},H b=some (.dK f)->upd H t.a (.ins C dx (Dk t.k.a p'.2.ck v)) b=some (.dK f):=λh=>E h (by nofun);have F:s.ts.set i t=s.ts:=kZ l;refine⟨⟨⟨B,Q,E e (by intro _ _ z;cases z;exact ne.t rfl),sd.rep R⟩,dk c.ek,c.kn.map (λa q⟨u,h⟩=>⟨u,h.kt (sd.kt cs.k)⟩),?_,?_,dk c.ec,?_,c.nk,c.dj,c.nh,λq m=>?_,c.n1,c.n2,c.n3⟩,Fr.upd (SA.t_all l (aal ..))⟩
 ·show upd _ _ _ s.dt=some (.dK (lN s.ts (d.tr.set i p')));have:=BX (t':=t) l D rfl I;rw[F]at this;rw[this];exact dk c.et
 ·have:=Pd.setM (R':=λu(q:Str×Tk)=>lW Z C K (upd H t.a (.ins C dx (Dk t.k.a p'.2.ck v))) u q.2) (x:=t) (y:=p') ⟨⟨dx,v,a_,sd.rep Y⟩,by rw[e2];exact tk.ln.sd cs sd⟩ i (λj u q J L r=>?_) c.tr
  ·rw[F]at this;exact this
  ·obtain⟨T,U,W,X⟩:=r.ob;have O:u.a≠t.a:=λz=>c.dj i j t u (aaI J) l L t.a (aal ..) (by rw[<-z];exact aal ..);exact⟨⟨T,U,by rw[c7 O];exact W,sd.rep X⟩,r.ln.sd cs sd⟩
 ·show((d.tr.set i p').map (·.1)).Nodup;rw[eY (·.1) D I];exact c.nm
 ·rcases abf m with m|rfl
  ·exact c.nt q m
  ·exact nl
inductive BW(Z:LC)(C S:Zl)(K:Zs)(vs:List V)(H:Hp)(Q:VK)(E:XK):Prop
 |mk (s:SA) (d:Sd) (h:Zl) (nm:Str) (i:Nat) (t:TA) (p:Str×Tk) (m:Int):vs=[.ref s.a,.ref h]->gf K H h [.str nm,.int m]->iR Z C S K H s d->s.ts[i]?=some t->d.tr[i]?=some p->p.1=nm->0<=m->m<=999999->(∀H',iR Z C S K H' s {d with tr:=d.tr.set i (p.1,{p.2 with ck:=p.2.ck+m})}->Fr s s H H'->Q .non H')->BW Z C S K vs H Q E
def Lk:du ["stand","handed","name","steps","track"] ["stand","handed"] (b_ (top 93)):=by ext
def T8(F:ir K "do_tick" "do_tick" (top 93) f G)(TK:sJ mg)(TZ:TZ K mg C)(SZ:SZ K mg S)(ne:xu Z C S)(O:Nq Z C)
 (x:MD K S "track_of" "Stand.track_of" (sM 1) ["self","name"] D c):dm P w K mg base dU 2 f G ["stand","handed"] (BW Z C S K):=by
 have J:dm P w K mg base dU 1 D c ["self","name"] (n8 Z C S K):=mL x.F SZ;refine F.ok Lk (by ext) λj A l s H vs Q E I h=>?_;obtain⟨y,d,h,nm,i,t,p,m,rfl,L,a,o,g,rfl,R,T,q⟩:=h;have n:eZ 1 _:=I.mono (by decide);obtain⟨U,M⟩:=TK.lim;refine⟨_,(bK (lY (pv 1) (iy rfl (dJ (jP 2 Lk.nd) (dJ (jP 3 Lk.nd) gP)))) (bK (jj 4 Lk.nd (eO (E:=E0) (pv 0) SZ.c x.M J n x.b .nil dR (aK (pv 2) cZ))) (bK (eX (jm (pR jN jN dh (pv 3) (iB (v:=.int 999999) rfl M ⟨_,rfl⟩))) (d8 gj) dI) (d8 (jh (pv 4) (pv 3) nP))))),?_⟩;obtain⟨z,v,e,W⟩:=a.ob;obtain⟨X,b,tk⟩:=a.tr.at o;rw[g]at b;cases b;obtain⟨r,Y,B,N⟩:=tk.ob;refine⟨_,rfl,h,_,rfl,L,rfl,_,_,rfl,_,_,rfl,rfl,?_⟩;refine⟨_,rfl,y.a,z,_,rfl,e,rfl,_,rfl,y,d,p.1,i,t,p,rfl,a,o,g,rfl,?_⟩;refine wy.iff (wy.not (wy.test (nZ.chain nZ.con (nZ.var rfl) nZ.con Bo.i0 Bo.i0))) (jT (λh=>?_) (λ_=>?_))
 ·simp at h;omega
 have:=a.setT (p':=(p.1,{p.2 with ck:=p.2.ck+m})) (dx:=r) ne O o g N rfl rfl (a.nt p (aaj g));exact⟨_,rfl,t.a,C,r,_,_,rfl,B,TZ.c,TZ.t2,rfl,_,rfl,_,_,rfl,rfl,r,_,B,(show 3<1000 by decide),q _ this.1 this.2⟩
inductive LK(Z:LC)(C S:Zl)(K:Zs)(vs:List V)(H:Hp)(Q:VK)(E:XK):Prop
 |mk (s:SA) (d:Sd) (h:Zl) (nm:Str) (i:Nat) (t:TA) (p:Str×Tk) (x:V) (e:PyData):vs=[.ref s.a,.ref h]->gf K H h [.str nm,x]->Rep K H x e->TD e->jx e=true->iR Z C S K H s d->s.ts[i]?=some t->d.tr[i]?=some p->p.1=nm->(∀H',iR Z C S K H' s {d with tr:=d.tr.set i (p.1,{p.2 with ts:=e})}->Fr s s H H'->Q .non H')->LK Z C S K vs H Q E
def Mi:du ["stand","handed","name","test","track"] ["stand","handed"] (b_ (top 101)):=by ext
def Vw(F:ir K "do_sieve" "do_sieve" (top 101) f T)(TZ:TZ K mg C)(SZ:SZ K mg S)(ne:xu Z C S)(cn:Nq Z C)
 (D:MD K S "track_of" "Stand.track_of" (sM 1) ["self","name"] O j)(DN:gq K mg "need_test" (top 74) ["test"] R l)(GN:dm P w K mg base dU 11 R l ["test"] (Ri K 0)):dm P w K mg base dU 12 f T ["stand","handed"] (LK Z C S K):=by
 have U:dm P w K mg base dU 1 O j ["self","name"] (n8 Z C S K):=mL D.F SZ;refine F.ok Mi (by ext) λa A m s H vs Q E G h=>?_;obtain⟨I,d,h,nm,i,t,p,x,e,rfl,W,J,L,X,r,y,B,rfl,q⟩:=h;have o:eZ 1 _:=G.mono (by decide);have b:eZ 11 _:=G.mono (by decide);refine⟨_,(bK (lY (pv 1) (iy rfl (dJ (jP 2 Mi.nd) (dJ (jP 3 Mi.nd) gP)))) (bK (jj 4 Mi.nd (eO (E:=E0) (pv 0) SZ.c D.M U o D.b .nil dR (aK (pv 2) cZ))) (bK (fc (iJ DN GN b (aK (pv 3) cZ))) (d8 (dY (pv 4) (pv 3) rfl))))),?_⟩;obtain⟨M,v,Y,rv⟩:=r.ob;refine⟨_,rfl,h,_,rfl,W,rfl,_,_,rfl,_,_,rfl,rfl,?_⟩;refine⟨_,rfl,I.a,M,_,rfl,Y,rfl,_,rfl,I,d,p.1,i,t,p,rfl,r,y,B,rfl,?_⟩;refine⟨_,rfl,x,e,rfl,J,L,λ_ H1 n=>?_,λz=>by rw[X]at z;cases z⟩;have c:=r.same n;obtain⟨p0,g,tk⟩:=c.tr.at y;rw[B]at g;cases g;obtain⟨N,vT,eT,rT⟩:=tk.ob;have:=c.setT (p':=(p.1,{p.2 with ts:=e})) (dx:=N) ne cn y B (J.same n) rfl rfl (Cv L);exact⟨_,rfl,_,rfl,t.a,C,N,_,rfl,eT,TZ.c,TZ.t3,(show 3<1000 by decide),q _ this.1 ((Fr.same n).trans this.2)⟩
inductive BV(vs:List V)(H:Hp)(Q:VK)(E:XK):Prop
 |mk (nm:Str) (a:Zl) (kvs:List (Key×V)):vs=[.str nm,.ref a]->Nm nm->H a=some (.dK kvs)->jq kvs (Sum.inr nm)=none->Q .non H->BV vs H Q E
def T5:du ["name","borne"] ["name","borne"] (b_ (top 87)):=by ext
def QX(F:ir K "need_new" "need_new" (top 87) f j)(T:Txt K mg)(TK:sJ mg)(z:gq K mg "is_name" (top 26) ["text"] y d)(l:gq K mg "need_name" (top 27) ["text"] i b):dm P w K mg base dU 3 f j ["name","borne"] BV:=by
 have n:dm P w K mg base dU 2 i b ["text"] lF:=nJ l.F T TK z;refine F.ok T5 (by ext) λm A c s H vs Q E e h=>?_;obtain⟨nm,a,p,rfl,r,v,x,q⟩:=h;have o:=pO e;refine⟨_,(bK (fc (iJ l n e (aK (pv 0) cZ))) (d8 (eX (Bd (Ph o (pv 0) (pv 1))) (d8 gj) dI))),?_⟩;have g:j8 H a (.str nm) none:=by rw[<-x];exact j8.k (k:=Sum.inr nm) v
 refine⟨_,rfl,nm,rfl,r,_,rfl,_,rfl,a,_,rfl,g,_,rfl,?_⟩;exact jT (λh=>by cases h) (λ_=>q)
inductive Cj(vs:List V)(H:Hp)(Q:VK)(E:XK):Prop
 |mk (a:Zl) (kvs:List (Key×V)) (m:Int):vs=[.ref a,.int m]->H a=some (.dK kvs)->(kvs.length:Int)<m->Q .non H->Cj vs H Q E
def TQ:du ["things","most"] ["things","most"] (b_ (top 88)):=by ext
def Fz(F:ir K "need_fewer" "need_fewer" (top 88) f d)(T:Txt K mg):dm P w K mg base dU 1 f d ["things","most"] Cj:=by refine F.ok TQ (by ext) λe A b s H vs Q E i h=>?_;obtain⟨a,c,m,rfl,g,j,q⟩:=h;refine⟨_,(d8 (eX (dM Bg (dD Ex (by rfl) T.len gD (aK (pv 0) cZ)) (pv 1) (dN _)) (d8 gj) dI)),?_⟩;refine⟨_,rfl,a,c,rfl,g,_,rfl,_,_,rfl,rfl,_,rfl,gW (by simp;omega) q⟩
def mG{a:List (Key×V)}{k:Key}{v:V}(h:∀p∈a,p.1≠k):putK a k v=a++[(k,v)]:=by unfold putK;rw[aab];intro z;obtain⟨p,m,e⟩:=abG.mp z;exact h p m (acj e)
theorem G_{a b:Type}{f:a->V}{g:b->Str}:∀{ts:List a} {tr:List b},(∀p∈tr,g p≠nm)->∀q∈List.zipWith (λt p=>((Sum.inr (g p):Key),f t)) ts tr,q.1≠Sum.inr nm
 |[],_,_,q,m=>by simp at m
 |_::_,[],_,q,m=>by simp at m
 | t::ts,p::tr,h,q,m=>by
   rw[abQ]at m;rcases aai.mp m with rfl|m
   ·intro z;injection z with z
    exact h p (aal ..) z
   ·exact G_ (λp m=>h p (aah _ m)) q m
structure Qa(mg:Y1):Prop where
 k:∃t,mg "MOST_KINDS"=some (.int 8 t)
 t:∃t,mg "MOST_TRACKS"=some (.int 6 t)
inductive Jv(Z:LC)(C S:Zl)(K:Zs)(vs:List V)(H:Hp)(Q:VK)(E:XK):Prop
 |mk (s:SA) (d:Sd) (h fa:Zl) (nm:Str) (xs:List V) (fs:List ji):vs=[.ref s.a,.ref h]->gf K H h [.str nm,.ref fa]->iR Z C S K H s d->(∀q∈d.kn,q.1≠nm)->Nm nm->H fa=some (.tup xs)->Paired (jG H) xs fs->fs.length<=4->(∀f∈fs,nU f)->(fs.map (·.1)).Nodup->d.kn.length<8->(∀a H',iR Z C S K H' {s with ks:=s.ks++[a]} {d with kn:=d.kn++[(nm,fs)]}->Fr s {s with ks:=s.ks++[a]} H H'->Q .non H')->Jv Z C S K vs H Q E
def Oz:du ["stand","handed","name","fields"] ["stand","handed"] (b_ (top 91)):=by ext
def Td{f fN fF fI:Zl}{fd y B D:ZB}(F:ir K "do_kind" "do_kind" (top 91) f fd)(T:Txt K mg)(TS:Qa mg)(L:LZ K mg Z)(SZ:SZ K mg S)(ne:xu Z C S)
 (DN:gq K mg "need_new" (top 87) ["name","borne"] fN y)(GN:dm P w K mg base dU 3 fN y ["name","borne"] BV)(DF:gq K mg "need_fewer" (top 88) ["things","most"] fF B)
 (MkK:Mk K Z.k fI)(GI:dm P w K mg base dU 4 fI D ["self","name","fields"] (v_ Z.k))(bI:Binds K D ["self","name","fields"] []):dm P w K mg base dU 6 f fd ["stand","handed"] (Jv Z C S K):=by
 have GF:dm P w K mg base dU 1 fF B ["things","most"] Cj:=Fz DF.F T;refine F.ok Oz (by ext) λn A J s H vs Q E G h=>?_;obtain⟨i,d,h,fa,nm,xs,fs,rfl,sq,l,X,hn,Y,pf,fl,fo,nd,kl,q⟩:=h;have hu:=pO G;have N:eZ 1 _:=G.mono (by decide);have O:eZ 3 _:=G.mono (by decide);obtain⟨tk,mk⟩:=TS.k;refine⟨_,(bK (lY (pv 1) (iy rfl (dJ (jP 2 Oz.nd) (dJ (jP 3 Oz.nd) gP)))) (bK (fc (iJ DN GN O (aK (pv 2) (aK (dq (pv 0) rfl) cZ)))) (bK (fc (iJ DF GF N (aK (dq (pv 0) rfl) (aK (iB (v:=.int 8) rfl mk ⟨_,rfl⟩) cZ)))) (d8 (jo hu (dq (pv 0) rfl) (pv 2) (lL (E:=E0) MkK GI G rfl L.kc.mg bI .nil dR (aK (pv 2) (aK (pv 3) cZ))) rfl))))),?_⟩;obtain⟨dx,v,e,rv⟩:=l.ob;have R:∀q∈El i.ks d.kn,q.1≠Sum.inr nm:=G_ (f:=λa:Addr=>V.ref a) (g:=λp:Str×List ji=>p.1) X;have nv:jq (El i.ks d.kn) (Sum.inr nm)=none:=su (f:=λt:Addr=>V.ref t) (ts:=i.ks) X;have U:(El i.ks d.kn).length<=d.kn.length:=by unfold El;simp;omega
 refine⟨_,rfl,h,_,rfl,sq,rfl,_,_,rfl,_,_,rfl,rfl,?_⟩;refine⟨_,rfl,_,rfl,i.a,S,dx,_,_,rfl,e,SZ.c,SZ.s3,rfl,nm,i.dk,_,rfl,hn,l.ek,nv,?_⟩;refine⟨_,rfl,i.a,S,dx,_,_,rfl,e,SZ.c,SZ.s3,rfl,i.dk,_,8,rfl,l.ek,by omega,?_⟩;refine⟨_,rfl,_,rfl,λx j hx r aa=>?_⟩;have s0:di H (upd (upd H j (.own x)) x (.ins Z.k j [])):=gY hx r (λb u e _=>e);refine⟨x,j,fa,nm,xs,fs,rfl,a_,hn,s0 _ _ Y,j7 pf (di.kt (Z:=Z) s0).tk,fl,fo,nd,λI ka k1=>⟨rfl,?_⟩⟩;have W:di H I:=gY hx r k1;have c:=l.same W;refine⟨_,rfl,i.a,S,dx,_,_,rfl,W _ _ e,SZ.c,SZ.s3,rfl,_,rfl,i.dk,_,rfl,o8.k (k:=Sum.inr nm) c.ek (abp U (aaF kl (by decide))),?_⟩;rw[mG R];have sd:gQ S I (upd I i.dk (.dK (El i.ks d.kn++[(Sum.inr nm,.ref x)]))):=gQ.put c.ek (.inl ⟨_,.inl rfl⟩);have md:i.dk∈i.all:=aah _ (aal ..);have fr:=(Fr.same (s:=i) W).trans (Fr.upd (o:=.dK (El i.ks d.kn++[(Sum.inr nm,.ref x)])) md);obtain⟨d1,v1,e1,r1⟩:=c.ob;have na:i.a≠i.dk:=λz=>by have:=c.ek;rw[<-z,e1]at this;cases this
 refine q x _ ⟨⟨d1,v1,by rw[c7 na];exact e1,sd.rep r1⟩,?_,Pd.app (.cons ⟨fa,ka.kt (sd.kt ne.k)⟩ .nil) (c.kn.map (λa p⟨t,h⟩=>⟨t,h.kt (sd.kt ne.k)⟩)),by rw[c7 c.n1.symm];exact c.et,c.tr.map (λ_ _ h=>h.sd ne sd),by rw[c7 c.n2.symm];exact c.ec,c.nm,?_,c.dj,c.nh,c.nt,c.n1,c.n2,c.n3⟩ ⟨fr.kp,fr.sub,fr.gr,rfl⟩
 ·show upd I i.dk _ i.dk=some (.dK (El (i.ks++[x]) (d.kn++[(nm,fs)])));rw[a_];unfold El;rw[ac0 l.kn.len];rfl
 ·show((d.kn++[(nm,fs)]).map (·.1)).Nodup;rw[aaw];refine aa9.mpr ⟨l.nk,by simp,λa ma b M z=>?_⟩;obtain⟨q,m,rfl⟩:=aap.mp ma;have M:b=nm:=by simpa using M
  exact X q m (z.trans M)
noncomputable def rA(a b:Int)(c:Bool):Tk:=⟨m9 a b c,0,vP⟩
inductive Mw(Z:LC)(C S:Zl)(K:Zs)(vs:List V)(H:Hp)(Q:VK)(E:XK):Prop
 |mk (s:SA) (d:Sd) (h:Zl) (nm:Str) (ov:Bool):vs=[.ref s.a,.ref h]->gf K H h [.str nm,.bl ov]->iR Z C S K H s d->(∀q∈d.tr,q.1≠nm)->Nm nm->d.tr.length<6->2<=d.pg->d.pg<=16->5<=d.rm->d.rm<=12->(∀t H',iR Z C S K H' {s with ts:=s.ts++[t]} {d with tr:=d.tr++[(nm,rA d.pg d.rm ov)]}->Fr s {s with ts:=s.ts++[t]} H H'->Q .non H')->Mw Z C S K vs H Q E
def Rf:du ["stand","handed","name","over"] ["stand","handed"] (b_ (top 92)):=by ext
def V3(F:ir K "do_lane" "do_lane" (top 92) f fd)(T:Txt K mg)(TS:Qa mg)(L:LZ K mg Z)(TZ:TZ K mg C)(SZ:SZ K mg S)(ne:xu Z C S)
 (DN:gq K mg "need_new" (top 87) ["name","borne"] fN Y)(GN:dm P w K mg base dU 3 fN Y ["name","borne"] BV)(DF:gq K mg "need_fewer" (top 88) ["things","most"] fF fdF)
 (MkL:Mk K Z.l fI)(GI:dm P w K mg base dU 3 fI fdI ["self","pages","room","over"] (JS Z))(kbL:k_ K fdI ["self","pages","room","over"] ["pages","room","over"] gL Xo)
 (MkT:Mk K C fJ)(FJ:ir K "__init__" "Track.__init__" (tM 0) fJ M)(bJ:Binds K M ["self","written"] []):dm P w K mg base dU 5 f fd ["stand","handed"] (Mw Z C S K):=by
 have GF:dm P w K mg base dU 1 fF fdF ["things","most"] Cj:=Fz DF.F T;have GJ:dm P w K mg base dU 1 fJ M ["self","written"] (JR Z C K):=M_ FJ TZ;refine F.ok Rf (by ext) λG A aa s H vs Q E N h=>?_;obtain⟨c,d,h,nm,W,rfl,sq,D,no,hn,kl,p1,p2,r1,r2,q⟩:=h;have U:=pO N;have ac:eZ 1 _:=N.mono (by decide);have ad:eZ 2 _:=N.mono (by decide);have ae:eZ 3 _:=N.mono (by decide);obtain⟨tk,mk⟩:=TS.t;refine⟨_,(bK (lY (pv 1) (iy rfl (dJ (jP 2 Rf.nd) (dJ (jP 3 Rf.nd) gP)))) (bK (fc (iJ DN GN ae (aK (pv 2) (aK (dq (pv 0) rfl) cZ)))) (bK (fc (iJ DF GF ac (aK (dq (pv 0) rfl) (aK (iB (v:=.int 6) rfl mk ⟨_,rfl⟩) cZ)))) (d8 (jo U (dq (pv 0) rfl) (pv 2) (lL (E:=E0) MkT GJ ad rfl TZ.mg bJ .nil dR (aK (qj (E:=E0) MkL GI N rfl L.lmg kbL dR (jZ (dq (pv 0) rfl) (jZ (dq (pv 0) rfl) (jZ (pv 3) wI)))) cZ)) rfl))))),?_⟩;obtain⟨X,v,e,rv⟩:=D.ob;have af:∀q∈lN c.ts d.tr,q.1≠Sum.inr nm:=G_ (f:=λt:TA=>V.ref t.a) (g:=λp:Str×Tk=>p.1) no;have nv:jq (lN c.ts d.tr) (Sum.inr nm)=none:=su (f:=λt:TA=>V.ref t.a) (ts:=c.ts) no;have ag:(lN c.ts d.tr).length<=d.tr.length:=by unfold lN;simp;omega
 refine⟨_,rfl,h,_,rfl,sq,rfl,_,_,rfl,_,_,rfl,rfl,?_⟩;refine⟨_,rfl,_,rfl,c.a,S,X,_,_,rfl,e,SZ.c,SZ.s4,rfl,nm,c.dt,_,rfl,hn,D.et,nv,?_⟩;refine⟨_,rfl,c.a,S,X,_,_,rfl,e,SZ.c,SZ.s4,rfl,c.dt,_,6,rfl,D.et,by omega,?_⟩;refine⟨_,rfl,c.a,S,X,_,_,rfl,e,SZ.c,SZ.s1,rfl,_,rfl,c.a,S,X,_,_,rfl,e,SZ.c,SZ.s2,rfl,_,rfl,λx I hx O ak=>?_⟩;refine⟨x,I,d.pg,d.rm,W,rfl,a_,p1,p2,r1,r2,λk H1 ka kc ln k1 kf kp=>⟨rfl,?_⟩⟩;have s1:di H H1:=gY hx O k1;refineλy dy hy ab al=>?_;refine⟨y,dy,x,rfl,a_,λvt J e2 r2 k2=>⟨rfl,?_⟩⟩;have s2:di H1 J:=gY hy ab k2;have S2:=s1.trans s2;have i:=D.same S2;have ah:=ln.same s2;have s0:di H (upd (upd H I (.own x)) x (.ins Z.l I [])):=gY hx O (λb u e _=>e);have fresh:∀b∈(⟨y,k⟩:TA).all,H b=none:=λb m=>by
  rcases aai.mp m with h|m
  ·rw[h];exact e_ s1 hy
  ·rcases aak.mp m with m|m
   ·rcases aai.mp m with h|m
    ·rw[h,ka];exact hx
    ·rcases aak.mp m with m|m
     ·obtain⟨s,ms,h⟩:=aap.mp m;rw[<-h];exact e_ s0 (kp s ms)
     ·have m:b∈k.cs:=m;rw[kc]at m;cases m
   ·exact e_ s0 (kf b m)
 refine⟨_,rfl,c.a,S,X,_,_,rfl,S2 _ _ e,SZ.c,SZ.s4,rfl,_,rfl,c.dt,_,rfl,o8.k (k:=Sum.inr nm) i.et (abp ag (aaF kl (by decide))),?_⟩;rw[mG af];have sd:gQ S J (upd J c.dt (.dK (lN c.ts d.tr++[(Sum.inr nm,.ref y)]))):=gQ.put i.et (.inl ⟨_,.inl rfl⟩);have md:c.dt∈c.all:=aah _ (aah _ (aal ..));have fr:=(Fr.same (s:=c) S2).trans (Fr.upd (o:=.dK (lN c.ts d.tr++[(Sum.inr nm,.ref y)])) md);obtain⟨d1,v1,e1,aj⟩:=i.ob;have na:c.a≠c.dt:=λz=>by have:=i.et;rw[<-z,e1]at this;cases this
 have ai:lW Z C K J ⟨y,k⟩ (rA d.pg d.rm W):=⟨⟨dy,vt,by show J y=some (.ins C dy (Dk k.a 0 vt));rw[ka];exact e2,r2⟩,ah⟩;have ap:∀(j:Nat)(u:TA),c.ts[j]?=some u->Apart ⟨y,k⟩ u:=λj u U b B mu=>by obtain⟨q,_,tu⟩:=D.tr.at U;obtain⟨o,eb⟩:=tu.here b mu;rw[fresh b B]at eb;cases eb
 refine q ⟨y,k⟩ _ ⟨⟨d1,v1,by rw[c7 na];exact e1,sd.rep aj⟩,by rw[c7 i.n1];exact i.ek,i.kn.map (λa p⟨t,h⟩=>⟨t,h.kt (sd.kt ne.k)⟩),?_,Pd.app (R:=λt(p:Str×Tk)=>lW Z C K (upd J c.dt (.dK (lN c.ts d.tr++[(Sum.inr nm,.ref y)]))) t p.2) (ys:=d.tr) (vs:=[(nm,rA d.pg d.rm W)]) (.cons (ai.sd ne sd) .nil) (i.tr.map (λ_ _ h=>h.sd ne sd)),by rw[c7 i.n3.symm];exact i.ec,?_,i.nk,?_,i.nh,?_,i.n1,i.n2,i.n3⟩ ⟨fr.kp,λb B=>?_,fr.gr,rfl⟩
 ·show upd J c.dt _ c.dt=some (.dK (lN (c.ts++[⟨y,k⟩]) (d.tr++[(nm,rA d.pg d.rm W)])));rw[a_];unfold lN;rw[ac0 D.tr.len];rfl
 ·show((d.tr++[(nm,rA d.pg d.rm W)]).map (·.1)).Nodup;rw[aaw];refine aa9.mpr ⟨D.nm,by simp,λa ma b B z=>?_⟩;obtain⟨q,m,rfl⟩:=aap.mp ma;have B:b=nm:=by simpa using B
  exact no q m (z.trans B)
 ·intro j l u v nj U hv;have r:(c.ts++[⟨y,k⟩])[j]?=some u:=U;have n:(c.ts++[⟨y,k⟩])[l]?=some v:=hv;rw[List.getElem?_append]at r n;split at r
  ·split at n
   ·exact D.dj j l u v nj r n
   ·obtain rfl:⟨y,k⟩=v:=by simpa using(aam.mp (aaj n)).symm
    exact(ap j u r).symm
  ·obtain rfl:⟨y,k⟩=u:=by simpa using(aam.mp (aaj r)).symm
   split at n
   ·exact ap l v n
   ·have a1:j-c.ts.length<1:=(aar.mp r).1;have a2:l-c.ts.length<1:=(aar.mp n).1;omega
 ·intro q mq;rcases aak.mp mq with m|m
  ·exact D.nt q m
  ·cases aam.mp m;rfl
 ·have B:b∈[c.a,c.dk,c.dt,c.dc]++(c.ts++[(⟨y,k⟩:TA)]).flatMap TA.all:=B;rw[aaU,<-acr]at B;rcases aak.mp B with m|m
  ·exact .inl m
  ·exact .inr (fresh b (by simpa using m))
end
end Cm
namespace Cm
open PySem L2 PySem.W PyProof.V PySem.Spec PyProof.Rows
section
variable{P:ZE}{w:ZH}{K:Zs}{mg:Y1}{base:ZN}{Z:LC}{C S:Zl}{H H' H'':Hp}
structure WF(K:Zs)(mg:Y1)(a:Zl)(D:YR):Prop where
 mg:mg "DEEDS"=some (.ref a)
 tb:KQ K a D
structure qH(P:ZE)(w:ZH)(K:Zs)(mg:Y1)(base:ZN)(f:Zl)(sp:Sp):Prop where
 ok:∃fd k,Binds K fd ["stand","handed"] []/\k<=12/\dm P w K mg base dU k f fd ["stand","handed"] sp
 kp:keepIn K (.ref f)=true
def pD{x:V}{a:List V}:qF (x::a) 0=some x:=by unfold qF KH;simp
def FP:nT (x::a) (some 1) none=a:=by unfold nT;simp[HT.jB]
inductive Q8(P:ZE)(w:ZH)(K:Zs)(mg:Y1)(base:ZN)(D:YR)(vs:List V)(H:Hp)(Q:VK)(E:XK):Prop
 |mk (x:V) (h f:Zl) (nm:Str) (as:List V) (sp:Sp):vs=[x,.ref h]->gf K H h (.str nm::as)->KTD.datumAt nm D=some f->qH P w K mg base f sp->(∀h' H1,di H H1->gf K H1 h' as->sp [x,.ref h'] H1 Q E0)->Q8 P w K mg base D vs H Q E
def SJ:du ["stand","deed","act"] ["stand","deed"] (b_ (top 108)):=by ext
def Vs(F:ir K "perform" "perform" (top 108) f g)(i:WF K mg c D):dm P w K mg base dU 13 f g ["stand","deed"] (Q8 P w K mg base D):=by
 refine F.ok SJ (by ext) λl A a s H vs Q E m h=>?_;obtain⟨x,h,d,nm,G,o,rfl,e,r,de,q⟩:=h;refine⟨_,(bK (jj 2 SJ.nd (dZ Ku (iB (v:=.ref c) rfl i.mg rfl) (dZ eU (pv 1) dh))) (d8 (dw (Hq (j:=2) rfl (.inl rfl) (aK (pv 0) (aK (lA pL (pv 1) (mU dh) mR) cZ)))))),?_⟩;refine⟨_,rfl,h,_,_,_,rfl,rfl,e,pD,c,nm,D,d,rfl,rfl,i.tb,r,?_⟩;obtain⟨b,k,y,B,ok⟩:=de.ok;refine⟨d,o,_,rfl,⟨⟨_,k,b,_,ok,m.mono B,y,dR⟩,de.kp⟩,_,rfl,_,rfl,_,rfl,h,_,rfl,e,λz=>?_,λp n=>?_⟩
 ·rw[FP]at z;exact absurd (aaB List.length z) (by simp)
 ·rw[FP];exact q p _ (di.new n) (gf.of a_)
end
end Cm
namespace Cm
open PySem L2 PySem.W PySem.Spec PyProof.Rows
abbrev rM(j:Nat):Stmt:=inClass (top 110) j
structure RZ(K:Zs)(mg:Y1)(R:Zl):Prop where
 c:vh K R
 mg:mg "Recorder"=some (.ref R)
 r1:g8 K R "stand"
 r2:g8 K R "past"
 r3:g8 K R "undone"
noncomputable def Wm(s p u:Zl):List (Str×V):=[("stand",.ref s),("past",.ref p),("undone",.ref u)]
structure pU where
 a:Addr
 pa:Addr
 un:Addr
 s:SA
structure RcAt(Z:LC)(C S R:Zl)(K:Zs)(H:Hp)(r:pU)(d:Sd)(n:Nat):Prop where
 ob:∃dx,H r.a=some (.ins R dx (Wm r.s.a r.pa r.un))
 ps:∃xs:List V,H r.pa=some (.lst xs)/\xs.length<=n
 un:H r.un=some (.lst [])
 st:iR Z C S K H r.s d
 ne:r.pa≠r.un
structure yj(d:Sd):Prop where
 sz:Tn d
 cl:∀p∈d.tr,(iu p.2.ln).length<=900
section
variable{P:ZE}{w:ZH}{K:Zs}{mg:Y1}{base:ZN}{Z:LC}{C S R:Zl}{H H' H'':Hp}
def eE.kt(h:eE Z H k n)(q:Kt Z H H')(d:∀b∈k.own,H' b=H b)(f:∀b∈k.ls,H' b=H b):eE Z H' k n:=by obtain⟨j,e⟩:=h.ob;refine⟨⟨j,by rw[d _ LA.a_own];exact e⟩,by rw[f _ (aal ..)];exact h.ls,Pd.mapM (λs a m r=>?_) h.pg,h.n1,h.n2,h.n3⟩;obtain⟨i,l⟩:=aax.mp a;exact r.kt q (d _ (LA.p_own l)) (f _ (aah _ (aap.mpr ⟨s,a,rfl⟩))) λc g=>d _ (LA.c_own (aaM.mpr ⟨s,a,g⟩))
noncomputable def StK(Z:LC)(s:SA)(b:Zl)(u:HO):Prop:=b∈s.all\/(∃a,u=.tup a)\/(∃o a,u=.frz o (.tup a))\/∃c fs,u=.ins Z.k c fs
def iR.keep{s:SA}{d:Sd}(c:iR Z C S K H s d)(kp:∀b u,H b=some u->StK Z s b u->H' b=some u):iR Z C S K H' s d:=by
 have kt:Kt Z H H':=⟨λb j e=>kp b _ e (.inr (.inl ⟨_,rfl⟩)),λb n fs e=>kp b _ e (.inr (.inr (.inr ⟨_,_,rfl⟩)))⟩;have x:∀a j,gf K H a j->gf K H' a j:=λa j z=>by
  rcases z with(z|⟨o,z⟩)|z
  ·exact .inl (.inl (kt.tk _ _ z))
  ·exact .inl (.inr ⟨o,kp _ _ z (.inr (.inr (.inl ⟨_,_,rfl⟩)))⟩)
  ·exact .inr z
 have l:∀b∈[s.a,s.dk,s.dt,s.dc],b∈s.all:=λb m=>(show b∈[s.a,s.dk,s.dt,s.dc]++s.ts.flatMap TA.all from aaY _ m);obtain⟨n,v,e,A⟩:=c.ob;refine⟨⟨n,v,kp _ _ e (.inl (l _ (by simp))),m7 x A c.nh⟩,kp _ _ c.ek (.inl (l _ (by simp))),c.kn.map (λa p⟨t,h⟩=>⟨t,h.kt kt⟩),kp _ _ c.et (.inl (l _ (by simp))),?_,kp _ _ c.ec (.inl (l _ (by simp))),c.nm,c.nk,c.dj,c.nh,c.nt,c.n1,c.n2,c.n3⟩;refine Pd.mapM (R:=λu(q:Str×Tk)=>lW Z C K H u q.2/\pP q.2.ts=true) (λt y p r=>?_) (Ax c.tr c.nt);obtain⟨i,B⟩:=aax.mp y;obtain⟨D,E,F,G⟩:=r.1.ob;have f:∀b∈t.all,b∈s.all:=λb m=>SA.t_all B m;refine⟨⟨D,E,kp _ _ F (.inl (f _ (aal ..))),m7 x G r.2⟩,r.1.ln.kt kt (λb g=>?_) (λb g=>?_)⟩
 ·obtain⟨_,_,_,e⟩:=r.1.ln.own_ls g;rw[e];exact kp _ _ e (.inl (f _ (aah _ (aaY _ g))))
 ·obtain⟨_,e⟩:=r.1.ln.has_ls g;rw[e];exact kp _ _ e (.inl (f _ (aah _ (aaE _ g))))
def KN{a:Zl}{b:List V}(s:di H H')(z:gf K H a b):gf K H' a b:=by
 rcases z with(z|⟨o,z⟩)|z
 ·exact .inl (.inl (s _ _ z))
 ·exact .inl (.inr ⟨o,s _ _ z⟩)
 ·exact .inr z
def Hj.all(n:Hj H s):∀b∈s.all,H b=none:=λb m=>by
 rcases aai.mp m with h|m
 ·rw[h];exact n.a
 rcases aai.mp m with h|m
 ·rw[h];exact n.k
 rcases aai.mp m with h|m
 ·rw[h];exact n.t
 rcases aai.mp m with h|m
 ·rw[h];exact n.c
 obtain⟨t,d,e⟩:=aaM.mp m;exact(n.ts t d).all b e
noncomputable def Zg(r:pU)(H a:Hp):Prop:=∀b u,H b=some u->b≠r.a->b≠r.pa->b≠r.un->a b=some u
noncomputable def N5(Z:LC)(C S R:Zl)(K:Zs)(r:pU)(n:Nat)(H:Hp)(g:SA)(h:Hp)(Q:VK):VK:=λv d=>∃e f,iR Z C S K d e f/\Fr g e h d/\∀a c,a.a=r.a->a.pa=r.pa->a.un=r.un->RcAt Z C S R K c a f (n+1)->Zg r H c->(∀b u,H b=some u->b∉a.s.all)->Q v c
inductive zU(Z:LC)(C S R:Zl)(P:ZE)(w:ZH)(K:Zs)(mg:Y1)(base:ZN)(D:YR)(vs:List V)(H:Hp)(Q:VK)(E:XK):Prop
 |mk (r:pU) (d:Sd) (n:Nat) (h f:Zl) (nm:Str) (as:List V) (sp:Sp):vs=[.ref r.a,.ref h]->RcAt Z C S R K H r d n->n<=900->yj d->gf K H h (.str nm::as)->KTD.datumAt nm D=some f->qH P w K mg base f sp->(∀s1 h' H2(Q':VK),di H H2->iR Z C S K H2 s1 d->gf K H2 h' as->(∀v H3,N5 Z C S R K r n H s1 H2 Q v H3->Q' v H3)->sp [.ref s1.a,.ref h'] H2 Q' E0)->zU Z C S R P w K mg base D vs H Q E
def Q6:du ["self","deed","later","told"] ["self","deed"] (b_ (rM 17)):=by ext
def SM{f fT fP aD:Zl}{fd J L:ZB}{D:YR}(F:ir K "do" "Recorder.do" (rM 17) f fd)(RZ:RZ K mg R)(SZ:SZ K mg S)(nR:Z.k≠R)(MT:MD K S "twin" "Stand.twin" (sM 5) ["self"] fT J)(GT:dm P w K mg base dU 12 fT J ["self"] (Oi Z C S K))
 (DP:gq K mg "perform" (top 108) ["stand","deed"] fP L)(DT:WF K mg aD D):dm P w K mg base dU 14 f fd ["self","deed"] (zU Z C S R P w K mg base D):=by
 have GP:dm P w K mg base dU 13 fP L ["stand","deed"] (Q8 P w K mg base D):=Vs DP.F DT;refine F.ok Q6 (by ext) λM A N s H vs Q E X h=>?_;obtain⟨r,d,n,h,f',nm,as,sp,rfl,c,nl,so,sq,ef,de,q⟩:=h;have G:eZ 12 _:=X.mono (by decide);refine⟨_,(bK (jj 2 Q6.nd (gb (E:=E0) (dq (pv 0) rfl) SZ.c MT.M GT G MT.b .nil dR)) (bK (jj 3 Q6.nd (iJ DP GP X (aK (pv 2) (aK (pv 1) cZ)))) (bK (fc (lE aaZ aa3 aa8 j4 (dq (pv 0) rfl) (aK (gw (aK (pv 1) (aK (dq (pv 0) rfl) cZ))) cZ))) (bK (fc (vK aaZ PySem.F.slot_list_clear PySem.F.type_list_clear Hu (dq (pv 0) rfl))) (bK (dY (pv 0) (pv 2) rfl) (d8 (dw (pv 3)))))))),?_⟩;obtain⟨x,e⟩:=c.ob;obtain⟨ds,vs,es,_⟩:=c.st.ob;have kl:∀t∈r.s.ts,t.k.cs.length<=900:=λt m=>by obtain⟨i,ht⟩:=aax.mp m;obtain⟨p,hp,_⟩:=c.st.tr.at ht;rw[c.st.cs_len ht hp];exact so.cl p (aaj hp)
 refine⟨_,rfl,r.a,R,x,_,_,rfl,e,RZ.c,RZ.r1,rfl,r.s.a,ds,_,rfl,es,rfl,r.s,d,rfl,c.st,so.sz,kl,λs1 H1 new _ _ j O=>?_⟩;refine⟨_,rfl,_,rfl,_,h,f',nm,as,sp,rfl,KN j sq,ef,de,λh' H2 l T=>?_⟩;refine q s1 h' H2 _ (j.trans l) (O.same l) T λv H3 hv=>?_;obtain⟨U,d3,W,fr,k⟩:=hv;have Y:=j.trans l;have fresh:=new.all;have up:∀b u,H b=some u->H3 b=some u:=λb u a=>fr.kp b u (Y _ _ a) λm=>by rw[fresh b m]at a;cases a
 obtain⟨xs,y,xl⟩:=c.ps;have o:r.a≠r.pa:=λz=>by rw[z,y]at e;cases e
 have I:r.a≠r.un:=λz=>by have:=c.un;rw[<-z,e]at this;cases this
 have off:∀b u,H b=some u->b∉U.all:=λb u a m=>by
  rcases fr.sub b m with h|h
  ·rw[fresh b h]at a;cases a
  ·rw[Y _ _ a]at h;cases h
 refine⟨_,rfl,r.a,R,x,_,_,rfl,up _ _ e,RZ.c,RZ.r2,rfl,.inl ⟨rfl,_,fj.of (up _ _ y)⟩,_,rfl,_,rfl,r.a,R,x,_,_,rfl,up _ _ e,RZ.c,RZ.r1,rfl,(by ext),λtp B=>?_⟩;have g:∀b u,H b=some u->b≠tp:=λb u a=>dg (up _ _ a) B;refine⟨r.pa,xs,_,rfl,rfl,(by rw[c7 (g _ _ y)];exact up _ _ y),abp (aag xl nl) (by decide),?_⟩;refine⟨_,rfl,r.a,R,x,Wm r.s.a r.pa r.un,.ref r.un,rfl,(by rw[c7 o,c7 (g _ _ e)];exact up _ _ e),RZ.c,RZ.r3,rfl,.inl ⟨rfl,[],fj.of (by rw[c7 c.ne.symm,c7 (g _ _ c.un)];exact up _ _ c.un)⟩,r.un,[],rfl,rfl,(by rw[c7 c.ne.symm,c7 (g _ _ c.un)];exact up _ _ c.un),?_⟩;refine⟨_,rfl,_,rfl,r.a,R,x,Wm r.s.a r.pa r.un,rfl,(by rw[c7 I,c7 o,c7 (g _ _ e)];exact up _ _ e),RZ.c,RZ.r1,(show 3<1000 by decide),?_⟩;refine⟨_,rfl,k ⟨r.a,r.pa,r.un,U⟩ _ rfl rfl rfl ⟨⟨x,?_⟩,⟨xs++[.ref tp],?_,by simp;omega⟩,?_,W.keep λb u a h=>?_,c.ne⟩ (λb u a n1 n2 n3=>?_) off⟩
 ·show upd _ r.a _ r.a=some (.ins R x (Wm U.a r.pa r.un));rw[a_,fr.a];rfl
 ·show upd _ r.a _ r.pa=_;rw[c7 o.symm,c7 c.ne,a_]
 ·show upd _ r.a _ r.un=_;rw[c7 I.symm,a_]
 ·have nt:b≠tp:=dg a B;have na:b≠r.a:=λz=>by
   subst z;rcases h with h|⟨_,h⟩|⟨_,_,h⟩|⟨_,_,h⟩
   ·exact off _ _ e h
   all_goals(rw[up _ _ e,h]at a;cases a)
   exact nR rfl
  have np:b≠r.pa:=λz=>by
   subst z;rcases h with h|⟨_,h⟩|⟨_,_,h⟩|⟨_,_,h⟩
   ·exact off _ _ y h
   all_goals(rw[up _ _ y,h]at a;cases a)
  have nu:b≠r.un:=λz=>by
   subst z;rcases h with h|⟨_,h⟩|⟨_,_,h⟩|⟨_,_,h⟩
   ·exact off _ _ c.un h
   all_goals(rw[up _ _ c.un,h]at a;cases a)
  rw[c7 na,c7 nu,c7 np,c7 nt];exact a
 ·rw[c7 n1,c7 n3,c7 n2,c7 (g _ _ a)];exact up _ _ a
noncomputable def O2(p r:Int):Sd:=⟨p,r,[],[],false,.none⟩
inductive Qy(Z:LC)(C S R:Zl)(K:Zs)(vs:List V)(H:Hp)(Q:VK)(E:XK):Prop
 |mk (o dx:Zl) (p r:Int):vs=[.ref o,.int p,.int r]->H o=some (.ins R dx [])->2<=p->p<=16->5<=r->r<=12->(∀(c:pU)H',c.a=o->H c.pa=none->H c.un=none->RcAt Z C S R K H' c (O2 p r) 0->(∀b u,H b=some u->b≠o->H' b=some u)->(∀b u,H b=some u->b∉c.s.all)->Q .non H')->Qy Z C S R K vs H Q E
def Y6:du ["self","pages","room"] ["self","pages","room"] (b_ (rM 0)):=by ext
def T3{f fI:Zl}{fd J:ZB}(F:ir K "__init__" "Recorder.__init__" (rM 0) f fd)(RZ:RZ K mg R)(SZ:SZ K mg S)(nR:S≠R)(U:Mk K S fI)(bI:Binds K J ["self","pages","room"] [])(GI:dm P w K mg base dU 2 fI J ["self","pages","room"] (Ky S)):dm P w K mg base dU 4 f fd ["self","pages","room"] (Qy Z C S R K):=by
 refine F.ok Y6 (by ext) λaa A O s H vs Q E hr h=>?_;obtain⟨o,y,p,r,rfl,ho,p1,p2,r1,r2,q⟩:=h;refine⟨_,(bK (dY (pv 0) (lL (E:=E0) U GI hr rfl SZ.mg bI .nil dR (aK (pv 1) (aK (pv 2) cZ))) rfl) (bK (dY (pv 0) (gC cZ) rfl) (d8 (dY (pv 0) (gC cZ) rfl)))),?_⟩;refine⟨_,rfl,_,rfl,λx g T D ab=>?_⟩;refine⟨x,g,p,r,rfl,a_,p1,p2,r1,r2,λdk W X L B Y ek et ec n1 n2 n3 k1=>⟨rfl,?_⟩⟩;have M:di H L:=gY T D k1;refine⟨_,rfl,o,R,y,_,rfl,M _ _ ho,RZ.c,RZ.r1,(show 0<1000 by decide),?_⟩;refine⟨(by ext),λd i=>?_⟩;have c:o≠d:=dg a_ i;refine⟨_,rfl,o,R,y,[("stand",.ref x)],rfl,(by rw[c7 c];exact a_),RZ.c,RZ.r2,(show 1<1000 by decide),?_⟩;refine⟨(by ext),λun a=>?_⟩;have l:o≠un:=dg a_ a;refine⟨_,rfl,o,R,y,[("stand",.ref x),("past",.ref d)],rfl,(by rw[c7 l];exact a_),RZ.c,RZ.r3,(show 2<1000 by decide),?_⟩;have n:d≠un:=dg (show upd (upd _ d _) o _ d=some _ by rw[c7 c.symm];exact a_) a;rw[c7 c.symm]at i;rw[c7 l.symm,c7 n.symm,c7 l.symm]at a;have up:∀b u,L b=some u->b≠o->upd (upd (upd (upd (upd L o (.ins R y (gJ "stand" (.ref x) []))) d (.lst [])) o (.ins R y (gJ "past" (.ref d) [("stand",.ref x)]))) un (.lst [])) o (.ins R y (gJ "undone" (.ref un) [("stand",.ref x),("past",.ref d)])) b=some u:=λb u e G=>by rw[c7 G,c7 (dg e a),c7 G,c7 (dg e i),c7 G];exact e
 have N:∀{b u},L b=some u->H b=none->b≠o:=λe h z=>by rw[z,ho]at h;cases h
 have I:H x=none:=T;have bk:∀{b},upd (upd H g (.own x)) x (.ins S g []) b=none->H b=none:=λe=>e_ (gY T D (λb u e _=>e)) e;refine q ⟨o,d,un,⟨x,dk,W,X,[],[]⟩⟩ _ rfl (e_ M i) (e_ M a) ⟨⟨y,a_⟩,⟨[],?_,aaf _⟩,?_,⟨⟨g,.non,up _ _ Y (N Y I),.non⟩,up _ _ ek (N ek (bk B.k)),.nil,up _ _ et (N et (bk B.t)),.nil,up _ _ ec (N ec (bk B.c)),abe,abe,(λj k u v _ h=>by cases h),rfl,(λp m=>by cases m),n1,n2,n3⟩,n⟩ (λb u e G=>up _ _ (M _ _ e) G) λb u e m=>?_
 rotate_left 2
 ·have:b=x\/b=dk\/b=W\/b=X:=by simpa[SA.all]using m
  rcases this with rfl|rfl|rfl|rfl
  ·rw[I]at e;cases e
  ·rw[bk B.k]at e;cases e
  ·rw[bk B.t]at e;cases e
  ·rw[bk B.c]at e;cases e
 ·show upd _ o _ d=_;rw[c7 c.symm,c7 n,c7 c.symm];exact a_
 ·show upd _ o _ un=_;rw[c7 l.symm];exact a_
def RcAt.same{r:pU}{d:Sd}{n:Nat}(h:RcAt Z C S R K H r d n)(s:di H H'):RcAt Z C S R K H' r d n:=by obtain⟨a,e⟩:=h.ob;obtain⟨b,c,l⟩:=h.ps;exact⟨⟨a,s _ _ e⟩,⟨b,s _ _ c,l⟩,s _ _ h.un,h.st.same s,h.ne⟩
noncomputable def Jo(Z:LC)(C S R:Zl)(K:Zs)(r:pU)(n:Nat)(H:Hp)(d:Sd)(c:Hp):Prop:=∃a:pU,a.a=r.a/\a.pa=r.pa/\a.un=r.un/\RcAt Z C S R K c a d (n+1)/\Zg r H c/\∀b u,H b=some u->b∉a.s.all
def N5.of{r:pU}{n:Nat}{g d:SA}{e:Sd}{h f:Hp}{Q:VK}{v:V}{tp:Zl}{o:HO}(i:H tp=none)(x:iR Z C S K f d e)(fr:Fr g d h f)(k:∀a,Jo Z C S R K r n H e a->Q v a):N5 Z C S R K r n (upd H tp o) g h Q v f:=
 ⟨d,e,x,fr,λj a l m p q kk s=>k a ⟨j,l,m,p,q,λb u c=>kk b u (di.new i _ _ c),λb u c=>s b u (di.new i _ _ c)⟩⟩
end
section
variable{P:ZE}{w:ZH}{K:Zs}{mg:Y1}{base:ZN}{Z:LC}{C S R:Zl}{H H' H'':Hp}{D:YR}
structure Rz(Z:LC)(C S R:Zl)(K:Zs)(H:Hp)(r:pU)(d:Sd)(n:Nat):Prop where
 at_:RcAt Z C S R K H r d n
 nl:n<=900
 ok:yj d
inductive wO(Z:LC)(C S R:Zl)(K:Zs)(vs:List V)(H:Hp)(Q:VK)(E:XK):Prop
 |mk (r:pU) (d:Sd) (n:Nat) (nm:Str) (ov:Bool):vs=[.ref r.a,.str nm,.bl ov]->Rz Z C S R K H r d n->(∀q∈d.tr,q.1≠nm)->Nm nm->d.tr.length<6->(∀H',Jo Z C S R K r n H {d with tr:=d.tr++[(nm,rA d.pg d.rm ov)]} H'->Q .non H')->wO Z C S R K vs H Q E
def Mh:du ["self","name","over"] ["self","name","over"] (b_ (rM 2)):=by ext
def Gy{f fD m:Zl}{p c:ZB}(F:ir K "lane" "Recorder.lane" (rM 2) f p)(RZ:RZ K mg R)(MD:MD K R "do" "Recorder.do" (rM 17) ["self","deed"] fD c)(L:dm P w K mg base dU 14 fD c ["self","deed"] (zU Z C S R P w K mg base D))(M:KTD.datumAt ("lane":Str) D=some m)(de:qH P w K mg base m (Mw Z C S K)):dm P w K mg base dU 15 f p ["self","name","over"] (wO Z C S R K):=by refine F.ok Mh (by ext) λq A g s H vs Q E v h=>?_;obtain⟨r,d,n,nm,o,rfl,a,I,q1,q2,k⟩:=h;refine⟨_,d8 (dw (eO (E:=E0) (pv 0) RZ.c MD.M L v MD.b .nil dR (aK (gw (aK dC (aK (pv 1) (aK (pv 2) cZ)))) cZ))),?_⟩;obtain⟨J,e⟩:=a.at_.ob;refine⟨_,rfl,r.a,J,_,rfl,e,rfl,_,rfl,_,rfl,(by ext),λtp b=>?_⟩;refine⟨r,d,n,tp,m,_,[.str nm,.bl o],_,rfl,a.at_.same (di.new b),a.nl,a.ok,gf.of a_,M,de,λx y N O z B i G=>?_⟩;exact⟨x,d,y,nm,o,rfl,i,B,I,q1,q2,a.ok.sz.p1,a.ok.sz.p2,a.ok.sz.r1,a.ok.sz.r2,λt T j l=>G _ _ (N5.of b j l k)⟩
inductive wB(Z:LC)(C S R:Zl)(K:Zs)(vs:List V)(H:Hp)(Q:VK)(E:XK):Prop
 |mk (r:pU) (d:Sd) (n:Nat) (nm:Str) (fa:Zl) (xs:List V) (fs:List ji):vs=[.ref r.a,.str nm,.ref fa]->Rz Z C S R K H r d n->(∀q∈d.kn,q.1≠nm)->Nm nm->H fa=some (.tup xs)->Paired (jG H) xs fs->fs.length<=4->(∀f∈fs,nU f)->(fs.map (·.1)).Nodup->d.kn.length<8->(∀H',Jo Z C S R K r n H {d with kn:=d.kn++[(nm,fs)]} H'->Q .non H')->wB Z C S R K vs H Q E
def K3:du ["self","name","fields"] ["self","name","fields"] (b_ (rM 1)):=by ext
def Hk{f fD x:Zl}{y g:ZB}{dV:ZI}(F:uq K "kind" "Recorder.kind" (rM 1) dV f y)(RZ:RZ K mg R)(MD:MD K R "do" "Recorder.do" (rM 17) ["self","deed"] fD g)(GD:dm P w K mg base dU 14 fD g ["self","deed"] (zU Z C S R P w K mg base D))(eA:KTD.datumAt ("kind":Str) D=some x)(de:qH P w K mg base x (Jv Z C S K)):dm P w K mg base dU 15 f y ["self","name","fields"] (wB Z C S R K):=by refine F.ok K3 (by ext) λz A j s H vs Q E B h=>?_;obtain⟨r,d,n,nm,v,M,fs,rfl,i,N,q1,q2,O,T,U,W,X,k⟩:=h;refine⟨_,d8 (dw (eO (E:=E0) (pv 0) RZ.c MD.M GD B MD.b .nil dR (aK (gw (aK dC (aK (pv 1) (aK (pv 2) cZ)))) cZ))),?_⟩;obtain⟨Y,e⟩:=i.at_.ob;refine⟨_,rfl,r.a,Y,_,rfl,e,rfl,_,rfl,_,rfl,(by ext),λtp b=>?_⟩;refine⟨r,d,n,tp,x,_,[.str nm,.ref v],_,rfl,i.at_.same (di.new b),i.nl,i.ok,gf.of a_,eA,de,λG I H2 Q' l J m L=>?_⟩;have c:=(di.new (o:=.tup [.str "kind",.str nm,.ref v]) b).trans l;exact⟨G,d,I,v,nm,M,fs,rfl,m,J,N,q1,c _ _ q2,j7 O (di.kt (Z:=Z) c).tk,T,U,W,X,λa H3 p q=>L _ _ (N5.of b p q k)⟩
inductive wW(Z:LC)(C S R:Zl)(K:Zs)(vs:List V)(H:Hp)(Q:VK)(E:XK):Prop
 |mk (r:pU) (d:Sd) (n:Nat) (nm:Str) (i:Nat) (p:Str×Tk) (m:Int):vs=[.ref r.a,.str nm,.int m]->Rz Z C S R K H r d n->d.tr[i]?=some p->p.1=nm->0<=m->m<=999999->(∀H',Jo Z C S R K r n H {d with tr:=d.tr.set i (p.1,{p.2 with ck:=p.2.ck+m})} H'->Q .non H')->wW Z C S R K vs H Q E
def K6:du ["self","lane","steps"] ["self","lane","steps"] (b_ (rM 3)):=by ext
def Gg{f fD q:Zl}{y b:ZB}{T:ZI}(F:uq K "tick" "Recorder.tick" (rM 3) T f y)(RZ:RZ K mg R)(MD:MD K R "do" "Recorder.do" (rM 17) ["self","deed"] fD b)(U:dm P w K mg base dU 14 fD b ["self","deed"] (zU Z C S R P w K mg base D))(W:KTD.datumAt ("tick":Str) D=some q)(de:qH P w K mg base q (BW Z C S K)):dm P w K mg base dU 15 f y ["self","lane","steps"] (wW Z C S R K):=by refine F.ok K6 (by ext) λz A g s H vs Q E B h=>?_;obtain⟨r,d,n,nm,i,p,m,rfl,c,x,rfl,q2,M,k⟩:=h;refine⟨_,d8 (dw (eO (E:=E0) (pv 0) RZ.c MD.M U B MD.b .nil dR (aK (gw (aK dC (aK (pv 1) (aK (pv 2) cZ)))) cZ))),?_⟩;obtain⟨N,e⟩:=c.at_.ob;refine⟨_,rfl,r.a,N,_,rfl,e,rfl,_,rfl,_,rfl,(by ext),λtp a=>?_⟩;refine⟨r,d,n,tp,q,_,[.str p.1,.int m],_,rfl,c.at_.same (di.new a),c.nl,c.ok,gf.of a_,W,de,λG I X Y J v j L=>?_⟩;obtain⟨t,O,_⟩:=v.tr.at' x;exact⟨G,d,I,p.1,i,t,p,m,rfl,j,v,O,x,rfl,q2,M,λH3 l o=>L _ _ (N5.of a l o k)⟩
inductive sH(Z:LC)(C S R:Zl)(K:Zs)(vs:List V)(H:Hp)(Q:VK)(E:XK):Prop
 |mk (r:pU) (d:Sd) (n:Nat) (nm:Str) (i:Nat) (p:Str×Tk) (x:V) (te:PyData):vs=[.ref r.a,.str nm,x]->Rz Z C S R K H r d n->d.tr[i]?=some p->p.1=nm->Rep K H x te->TD te->jx te=true->(∀H',Jo Z C S R K r n H {d with tr:=d.tr.set i (p.1,{p.2 with ts:=te})} H'->Q .non H')->sH Z C S R K vs H Q E
def FT:du ["self","lane","test"] ["self","lane","test"] (b_ (rM 11)):=by ext
def DX{f fD y:Zl}{G b:ZB}(F:ir K "sieve" "Recorder.sieve" (rM 11) f G)(RZ:RZ K mg R)(MD:MD K R "do" "Recorder.do" (rM 17) ["self","deed"] fD b)(Y:dm P w K mg base dU 14 fD b ["self","deed"] (zU Z C S R P w K mg base D))(eA:KTD.datumAt ("sieve":Str) D=some y)(de:qH P w K mg base y (LK Z C S K)):dm P w K mg base dU 15 f G ["self","lane","test"] (sH Z C S R K):=by refine F.ok FT (by ext) λI A g s H vs Q E J h=>?_;obtain⟨r,d,n,nm,i,p,x,O,rfl,c,B,rfl,q2,T,U,k⟩:=h;refine⟨_,d8 (dw (eO (E:=E0) (pv 0) RZ.c MD.M Y J MD.b .nil dR (aK (gw (aK dC (aK (pv 1) (aK (pv 2) cZ)))) cZ))),?_⟩;obtain⟨W,e⟩:=c.at_.ob;refine⟨_,rfl,r.a,W,_,rfl,e,rfl,_,rfl,_,rfl,(by ext),λtp a=>?_⟩;refine⟨r,d,n,tp,y,_,[.str p.1,x],_,rfl,c.at_.same (di.new a),c.nl,c.ok,gf.of a_,eA,de,λL M H2 Q' j z l N=>?_⟩;have v:=(di.new (o:=.tup [.str "sieve",.str p.1,x]) a).trans j;obtain⟨t,X,_⟩:=z.tr.at' B;exact⟨L,d,M,p.1,i,t,p,x,O,rfl,l,q2.same v,T,U,z,X,B,rfl,λH3 m q=>N _ _ (N5.of a m q k)⟩
inductive tV(Z:LC)(C S R:Zl)(K:Zs)(vs:List V)(H:Hp)(Q:VK)(E:XK):Prop
 |mk (r:pU) (d:Sd) (n:Nat) (nm kd:Str) (b:Zl) (i j:Nat) (p:Str×Tk) (q:Str×List ji) (zs:List Int):vs=[.ref r.a,.str nm,.str kd,.ref b]->Rz Z C S R K H r d n->d.tr[i]?=some p->p.1=nm->H b=some (.tup (zs.map V.int))->d.kn[j]?=some q->q.1=kd->d.still=false->d.halt=.none->tO q.1 q.2->Hx q.2 p.2.ck zs p.2.ln->TD p.2.ts->jx p.2.ts=true->(∀rr h H',Wu q.2 p.2.ln rr h->Jo Z C S R K r n H (d.put i p (R6 q.1 q.2 p.2.ck zs p.2.ln rr h (n6 q.1 q.2 zs p.2.ts))) H'->Q (.bl (n6 q.1 q.2 zs p.2.ts)) H')->tV Z C S R K vs H Q E
def J8:du ["self","lane","kind","values"] ["self","lane","kind","values"] (b_ (rM 8)):=by ext
def Ej{f fD G:Zl}{L c:ZB}(F:ir K "write" "Recorder.write" (rM 8) f L)(RZ:RZ K mg R)(MD:MD K R "do" "Recorder.do" (rM 17) ["self","deed"] fD c)(GD:dm P w K mg base dU 14 fD c ["self","deed"] (zU Z C S R P w K mg base D))(eA:KTD.datumAt ("write":Str) D=some G)(de:qH P w K mg base G (J_ Z C S K)):dm P w K mg base dU 15 f L ["self","lane","kind","values"] (tV Z C S R K):=by refine F.ok J8 (by ext) λM A l s H vs Q E N h=>?_;obtain⟨r,d,n,nm,kd,b,i,j,p,q,zs,rfl,g,J,rfl,q2,q3,rfl,q5,q6,q7,q8,q9,B,k⟩:=h;refine⟨_,d8 (dw (eO (E:=E0) (pv 0) RZ.c MD.M GD N MD.b .nil dR (aK (gw (aK dC (aK (pv 1) (aK (pv 2) (aK (pv 3) cZ))))) cZ))),?_⟩;obtain⟨dx,e⟩:=g.at_.ob;refine⟨_,rfl,r.a,dx,_,rfl,e,rfl,_,rfl,_,rfl,_,rfl,(by ext),λtp a=>?_⟩;refine⟨r,d,n,tp,G,_,[.str p.1,.str q.1,.ref b],_,rfl,g.at_.same (di.new a),g.nl,g.ok,gf.of a_,eA,de,λO T H2 Q' m I v U=>?_⟩;have z:=(di.new (o:=.tup [.str "write",.str p.1,.str q.1,.ref b]) a).trans m;obtain⟨t,ht,_⟩:=I.tr.at' J;exact⟨O,d,T,b,p.1,q.1,i,j,t,p,q,zs,rfl,v,z _ _ q2,I,ht,J,rfl,q3,rfl,q5,q6,q7,q8,q9,B,λW h s' H3 X x y=>U _ _ (N5.of a x y λY=>k W h Y X)⟩
inductive zM(Z:LC)(C S R:Zl)(K:Zs)(vs:List V)(H:Hp)(Q:VK)(E:XK):Prop
 |mk (r:pU) (d:Sd) (n:Nat) (nm:Str) (i:Nat) (p:Str×Tk):vs=[.ref r.a,.str nm]->RcAt Z C S R K H r d n->d.tr[i]?=some p->p.1=nm->Q (.int p.2.ck) H->zM Z C S R K vs H Q E
def Pj:du ["self","lane"] ["self","lane"] (b_ (rM 25)):=by ext
def Lj(F:ir K "now" "Recorder.now" (rM 25) f m)(RZ:RZ K mg R)(SZ:SZ K mg S)(TZ:TZ K mg C)(g:MD K S "track_of" "Stand.track_of" (sM 1) ["self","name"] l a):dm P w K mg base dU 2 f m ["self","lane"] (zM Z C S R K):=by have y:dm P w K mg base dU 1 l a ["self","name"] (n8 Z C S K):=mL g.F SZ;refine F.ok Pj (by ext) λo A c s H vs Q E x h=>?_;obtain⟨r,d,n,nm,i,p,rfl,b,j,rfl,q⟩:=h;refine⟨_,d8 (dw (dq (eO (E:=E0) (dq (pv 0) rfl) SZ.c g.M y (x.mono (by decide)) g.b .nil dR (aK (pv 1) cZ)) rfl)),?_⟩;obtain⟨z,e⟩:=b.ob;obtain⟨B,v,G,_⟩:=b.st.ob;obtain⟨t,I,tk⟩:=b.st.tr.at' j;obtain⟨J,M,L,N⟩:=id tk.ob;exact⟨_,rfl,r.a,R,z,_,_,rfl,e,RZ.c,RZ.r1,rfl,r.s.a,B,_,rfl,G,rfl,_,rfl,r.s,d,p.1,i,t,p,rfl,b.st,I,j,rfl,t.a,C,J,_,_,rfl,L,TZ.c,TZ.t2,rfl,q⟩
inductive ql(Z:LC)(C S R:Zl)(K:Zs)(vs:List V)(H:Hp)(Q:VK)(E:XK):Prop
 |mk (r:pU) (d:Sd) (n:Nat) (nm:Str) (i:Nat) (p:Str×Tk):vs=[.ref r.a,.str nm]->RcAt Z C S R K H r d n->d.tr[i]?=some p->p.1=nm->(∀v,Rep K H v p.2.ts->Q v H)->ql Z C S R K vs H Q E
def Fb:du ["self","lane"] ["self","lane"] (b_ (rM 26)):=by ext
def zV(F:ir K "test_of" "Recorder.test_of" (rM 26) f m)(RZ:RZ K mg R)(SZ:SZ K mg S)(TZ:TZ K mg C)(g:MD K S "track_of" "Stand.track_of" (sM 1) ["self","name"] l a):dm P w K mg base dU 2 f m ["self","lane"] (ql Z C S R K):=by have y:dm P w K mg base dU 1 l a ["self","name"] (n8 Z C S K):=mL g.F SZ;refine F.ok Fb (by ext) λo A c s H vs Q E x h=>?_;obtain⟨r,d,n,nm,i,p,rfl,b,j,rfl,q⟩:=h;refine⟨_,d8 (dw (dq (eO (E:=E0) (dq (pv 0) rfl) SZ.c g.M y (x.mono (by decide)) g.b .nil dR (aK (pv 1) cZ)) rfl)),?_⟩;obtain⟨z,e⟩:=b.ob;obtain⟨B,v,G,_⟩:=b.st.ob;obtain⟨t,I,tk⟩:=b.st.tr.at' j;obtain⟨J,N,L,M⟩:=id tk.ob;exact⟨_,rfl,r.a,R,z,_,_,rfl,e,RZ.c,RZ.r1,rfl,r.s.a,B,_,rfl,G,rfl,_,rfl,r.s,d,p.1,i,t,p,rfl,b.st,I,j,rfl,t.a,C,J,_,_,rfl,L,TZ.c,TZ.t3,rfl,q _ M⟩
inductive wH(Z:LC)(C S R:Zl)(K:Zs)(vs:List V)(H:Hp)(Q:VK)(E:XK):Prop
 |mk (r:pU) (d:Sd) (n:Nat) (nm:Str) (i:Nat) (p:Str×Tk):vs=[.ref r.a,.str nm]->RcAt Z C S R K H r d n->d.tr[i]?=some p->p.1=nm->p.2.ln.pg.length<=900->(iu p.2.ln).length<=900->(Cm.stand p.2.ln).length<=900->(∀(l:Zl)(xs:List V)(H':Hp),di H H'->H' l=some (.lst xs)->Pd (oV H') xs (jy p.2.ln)->Q (.ref l) H')->wH Z C S R K vs H Q E
def Kv:du ["self","lane"] ["self","lane"] (b_ (rM 27)):=by ext
def J6(F:ir K "look" "Recorder.look" (rM 27) f z)(RZ:RZ K mg R)(SZ:SZ K mg S)(TZ:TZ K mg C)(j:MD K S "track_of" "Stand.track_of" (sM 1) ["self","name"] x a)(L:LZ K mg Z)(B:MD K Z.l "look" "Lane.look" (lM 13) ["self"] y b)(GL:dm P w K mg base dU 3 y b ["self"] (L_ Z)):dm P w K mg base dU 4 f z ["self","lane"] (wH Z C S R K):=by have T:dm P w K mg base dU 1 x a ["self","name"] (n8 Z C S K):=mL j.F SZ;refine F.ok Kv (by ext) λG A g s H vs Q E m h=>?_;obtain⟨r,d,n,nm,i,p,rfl,c,o,rfl,U,q1,q2,q⟩:=h;refine⟨_,d8 (dw (gb (E:=E0) (dq (eO (E:=E0) (dq (pv 0) rfl) SZ.c j.M T (m.mono (by decide)) j.b .nil dR (aK (pv 1) cZ)) rfl) L.lc B.M GL (m.mono (by decide)) B.b .nil dR)),?_⟩;obtain⟨W,e⟩:=c.ob;obtain⟨X,v,Y,_⟩:=c.st.ob;obtain⟨t,ht,tk⟩:=c.st.tr.at' o;obtain⟨dT,vT,eT,rT⟩:=id tk.ob;obtain⟨dl,el⟩:=tk.ln.ob;exact⟨_,rfl,r.a,R,W,_,_,rfl,e,RZ.c,RZ.r1,rfl,r.s.a,X,_,rfl,Y,rfl,_,rfl,r.s,d,p.1,i,t,p,rfl,c.st,ht,o,rfl,t.a,C,dT,_,_,rfl,eT,TZ.c,TZ.t1,rfl,t.k.a,dl,_,rfl,el,rfl,t.k,p.2.ln,rfl,tk.ln,by rw[tk.ln.cs_len];exact q1,U,q2,λl I J M _ N O=>q l I J M N O⟩
end
section
variable{P:ZE}{w:ZH}{K:Zs}{mg:Y1}{base:ZN}{Z:LC}{C S R:Zl}{H H' H'':Hp}
inductive R0(Z:LC)(C S R:Zl)(K:Zs)(vs:List V)(H:Hp)(Q:VK)(E:XK):Prop
 |mk (r:pU) (d:Sd) (n:Nat) (nm:Str) (i:Nat) (p:Str×Tk):vs=[.ref r.a,.str nm]->RcAt Z C S R K H r d n->d.tr[i]?=some p->p.1=nm->(∀t H',di H H'->H' t=some (.tup [.int p.2.ln.giv,.int p.2.ln.thr,.int p.2.ln.los,.int p.2.ln.mis])->Q (.ref t) H')->R0 Z C S R K vs H Q E
def X3:du ["self","lane"] ["self","lane"] (b_ (rM 29)):=by ext
def V0{f x y:Zl}{z a b:ZB}(F:ir K "counts" "Recorder.counts" (rM 29) f z)(L:LZ K mg Z)(RZ:RZ K mg R)(SZ:SZ K mg S)(TZ:TZ K mg C)(j:MD K S "track_of" "Stand.track_of" (sM 1) ["self","name"] x a)(l:MD K Z.l "counts" "Lane.counts" (lM 19) ["self"] y b):dm P w K mg base dU 2 f z ["self","lane"] (R0 Z C S R K):=by have D:dm P w K mg base dU 1 x a ["self","name"] (n8 Z C S K):=mL j.F SZ;have G:dm P w K mg base dU 1 y b ["self"] (Ro Z):=Uq l.F L;refine F.ok X3 (by ext) λB A g s H vs Q E m h=>?_;obtain⟨r,d,n,nm,i,p,rfl,c,o,rfl,q⟩:=h;refine⟨_,d8 (dw (gb (E:=E0) (dq (eO (E:=E0) (dq (pv 0) rfl) SZ.c j.M D m j.b .nil dR (aK (pv 1) cZ)) rfl) L.lc l.M G m l.b .nil dR)),?_⟩;obtain⟨I,e⟩:=c.ob;obtain⟨J,v,M,_⟩:=c.st.ob;obtain⟨t,N,tk⟩:=c.st.tr.at' o;obtain⟨O,W,T,_⟩:=tk.ob;obtain⟨dl,U⟩:=tk.ln.ob;exact⟨_,rfl,r.a,R,I,_,_,rfl,e,RZ.c,RZ.r1,rfl,r.s.a,J,_,rfl,M,rfl,_,rfl,r.s,d,p.1,i,t,p,rfl,c.st,N,o,rfl,t.a,C,O,_,_,rfl,T,TZ.c,TZ.t1,rfl,t.k.a,dl,_,rfl,U,rfl,t.k,p.2.ln,rfl,tk.ln,q⟩
noncomputable def U7(d:Sd):Prop:=∀p∈d.tr,p.2.ln.pg.length<=900/\(iu p.2.ln).length<=900/\(Cm.stand p.2.ln).length<=900
noncomputable def Ie(H:Hp)(a:Zl)(p:Str×Tk):Prop:=∃b,H a=some (.lst b)/\Pd (oV H) b (jy p.2.ln)
inductive HN(Z:LC)(C S:Zl)(K:Zs)(vs:List V)(H:Hp)(Q:VK)(E:XK):Prop
 |mk (s:SA) (d:Sd):vs=[.ref s.a]->iR Z C S K H s d->d.tr.length<=900->U7 d->(∀(l:Zl)(ls:YI)(H':Hp),di H H'->H' l=some (.lst (ls.map V.ref))->Pd (Ie H') ls d.tr->Q (.ref l) H')->HN Z C S K vs H Q E
def Ue:du ["self"] ["self"] (b_ (sM 4)):=by ext
def Ie.sd(h:Ie H a p)(s:gQ S H H'):Ie H' a p:=by obtain⟨c,e,d⟩:=h;exact⟨c,s _ _ e vJ,d.map λ_ _ r=>r.tk λb ys e=>s _ _ e Ag⟩
def Qq{f fL:Zl}{fd T:ZB}(F:ir K "looks" "Stand.looks" (sM 4) f fd)(L:LZ K mg Z)(SZ:SZ K mg S)(TZ:TZ K mg C)(ne:xu Z C S)(ML:MD K Z.l "look" "Lane.look" (lM 13) ["self"] fL T)(GL:dm P w K mg base dU 3 fL T ["self"] (L_ Z)):dm P w K mg base dU 4 f fd ["self"] (HN Z C S K):=by
 refine F.ok Ue (by ext) λab A W s H vs Q E hr h=>?_;obtain⟨a,d,rfl,y,tl,lo,q⟩:=h;refine⟨_,d8 (dw (yX (jb (g:=eN 0) (own:=["track"]) (js:=[]) (N':=["track"]) (dX.of (osc:=b_ (sM 4)) (N:=["self"]) rfl rfl (by ext)) rfl (uJ (wg acQ PySem.F.type_dict_values u_ (dq (pv 0) (by rfl)))) (λ_ _ _ _ _=>(fZ (i:=0) (show List.Nodup (["track"]:Y2) by ext) rfl (.inl rfl) (.inr rfl))) (λ_ _ _ _ _=>gF) (λ_ _ _ _ _=>gb (E:=E0) (qU (K:=K) rfl (pv 0) rfl) L.lc ML.M GL hr ML.b .nil dR)))),?_⟩;obtain⟨dx,v,e,_⟩:=y.ob;refine⟨a.dt,_,y.et,λo=>?_⟩;have na:a.a≠a.dt:=λz=>by have:=y.et;rw[<-z,e]at this;cases this
 refine⟨_,rfl,a.a,S,dx,_,_,rfl,(by rw[c7 na];exact e),SZ.c,SZ.s4,rfl,⟨a.dt,o,_,rfl,a_⟩,a.dt,o,_,rfl,rfl,a_,λvw j=>?_⟩;have nv:a.dt≠vw:=dg a_ j;have I:H vw=none:=by rw[c7 nv.symm]at j;exact j
 refine⟨vw,a.dt,o,_,rfl,a_,(by rw[c7 nv];exact a_),?_⟩;have J:gQ S H (upd (upd H a.dt (.frz o (.dK (lN a.ts d.tr)))) vw (ou vw a.dt)):=(gQ.put y.et (.inl ⟨_,.inl rfl⟩)).trans (di.sd (di.new j));have c:upd (upd H a.dt (.frz o (.dK (lN a.ts d.tr)))) vw (ou vw a.dt) a.dt=some (.frz o (.dK (lN a.ts d.tr))):=by rw[c7 nv];exact a_
 have M:∀b u,H b=some u->b≠a.dt->upd (upd H a.dt (.frz o (.dK (lN a.ts d.tr)))) vw (ou vw a.dt) b=some u:=λb u D nb=>by rw[c7 (dg D I),c7 nb];exact D
 generalize upd (upd H a.dt (.frz o (.dK (lN a.ts d.tr)))) vw (ou vw a.dt)=H0 at J c M|-;have kl:(lN a.ts d.tr).length=d.tr.length:=vH y.tr.len;refine xX (λi ys m X=>(∃v,m=[v])/\di H0 X/\∃ls:List Addr,ys=ls.map V.ref/\Pd (Ie X) ls (d.tr.take i)) (by rw[kl];exact aag tl (by decide)) ⟨⟨none,rfl⟩,di.refl _,[],rfl,.nil⟩ (λi ys m X _ z=>z.2.1 _ _ c) ?_ ?_
 ·rintro i x ys m H1 hx hy⟨⟨v,rfl⟩,B,ls,rfl,U⟩N hN;obtain⟨t,p,ht,hp,ex⟩:=Fj hx;obtain⟨p0,O,tk⟩:=y.tr.at ht;rw[hp]at O;cases O;have n:=(tk.sd ne J).same B;obtain⟨dT,vT,eT,_⟩:=n.ob;obtain⟨dl,el⟩:=n.ln.ob;obtain⟨l1,l2,l3⟩:=lo p (aaj hp);rw[ex];dsimp only[eN,List.set];refine⟨_,rfl,t.a,C,dT,_,_,rfl,eT,TZ.c,TZ.t1,rfl,t.k.a,dl,_,rfl,el,rfl,t.k,p.2.ln,rfl,n.ln,by rw[n.ln.cs_len];exact l2,l1,l3,λl xs H2 s2 _ G Y=>hN _ _ _ (by simpa using hy) ⟨⟨_,rfl⟩,B.trans s2,ls++[l],by simp,?_⟩⟩;rw[iQ hp];exact Pd.app (.cons ⟨xs,G,Y⟩ .nil) (U.map λ_ _ r=>r.sd (di.sd (S:=S) s2))
 ·rintro ys m H1 hy⟨_,B,ls,rfl,U⟩;rw[kl,aaL]at U;refine⟨by rw[hy,kl];exact aag tl (by decide),λl G=>?_⟩;have nl:a.dt≠l:=dg (B _ _ c) G;refine⟨by rw[c7 nl];exact B _ _ c,?_⟩;have aa:gQ S H1 (upd (upd H1 l (.lst (ls.map V.ref))) a.dt (.dK (lN a.ts d.tr))):=(di.sd (di.new G)).trans (gQ.put (by rw[c7 nl];exact B _ _ c) (.inl ⟨_,.inr ⟨_,rfl⟩⟩));refine q l ls _ (λb u D=>?_) (by rw[c7 nl.symm];exact a_) (U.map λ_ _ r=>r.sd aa);by_cases z:b=a.dt
  ·subst z;rw[y.et]at D;cases D;exact a_
  ·have e1:=B _ _ (M b u D z);rw[c7 z,c7 (dg e1 G)];exact e1
end
noncomputable def pN:Tg->Bool
 |.lost _=>false
 |.ev _ _=>true
noncomputable def Ni(d:Sd):List Tg:=d.tr.flatMap λp=>jy p.2.ln
section
variable{P:ZE}{w:ZH}{K:Zs}{mg:Y1}{base:ZN}{Z:LC}{C S R:Zl}{H H' H'':Hp}
theorem Ke(h:oV H x t):∃b k a,x=.ref b/\H b=some (.tup (.str k::a))/\decide (k=("event":Str))=pN t:=by
 cases t with
 |lost n=>obtain ⟨b,e,h⟩:=h;exact ⟨b,_,_,e,h,show decide (("lost":Str)="event")=false by ext⟩
 |ev d c=>obtain ⟨b,t,e,h,_⟩:=h;exact ⟨b,_,_,e,h,show decide (("event":Str)="event")=true by ext⟩
inductive Rt(Z:LC)(C S R:Zl)(K:Zs)(vs:List V)(H:Hp)(Q:VK)(E:XK):Prop
 |mk (r:pU) (d:Sd) (n:Nat):vs=[.ref r.a]->RcAt Z C S R K H r d n->d.tr.length<=900->U7 d->(Ni d).length<=900->(∀H',di H H'->Q (.int (((Ni d).filter pN).length:Nat)) H')->Rt Z C S R K vs H Q E
def Yz:du ["self"] ["self"] (b_ (rM 37)):=by ext
def TJ{f fL:Zl}{fd O:ZB}(F:ir K "__len__" "Recorder.__len__" (rM 37) f fd)(T:Txt K mg)(RZ:RZ K mg R)(SZ:SZ K mg S)(ML:MD K S "looks" "Stand.looks" (sM 4) ["self"] fL O)(GL:dm P w K mg base dU 4 fL O ["self"] (HN Z C S K)):dm P w K mg base dU 5 f fd ["self"] (Rt Z C S R K):=by
 refine F.ok Yz (by ext) λaf A aa s H vs Q E hr h=>?_;obtain⟨r,d,n,rfl,rc,tl,lo,gl,q⟩:=h;refine⟨_,d8 (dw (dD dO (by rfl) T.len gD (aK (yS (g:=eN 0) (g2:=eN 1) (tt:=qm) (te:=oY 1) (wi2:=Cw K (oY 0)) (own:=["told","thing"]) (js:=[]) (N':=["told","thing"]) (dX.of (osc:=b_ (rM 37)) (N:=["self"]) rfl rfl (by ext)) rfl (h_ (gb (E:=E0) (dq (pv 0) rfl) SZ.c ML.M GL hr ML.b .nil dR)) (λ_ _ _ _ _=>(fZ (i:=0) (show List.Nodup (["told","thing"]:Y2) by ext) rfl (.inl rfl) (.inr rfl))) (λ_ _ _ _ _=>gF) (λ_ _ _ _ _=>xK rfl (pv 0)) (λ_ _=>rfl) (λ_ _ _ _ _=>(fZ (i:=1) (show List.Nodup (["told","thing"]:Y2) by ext) rfl (.inl rfl) (.inr rfl))) (λ_ _ _ _ _=>mC (dM gG (dZ (r:=qg K) eU (pv 1) dh) dC (dN _))) (λ_ _ _ _ _=>pv 1)) cZ))),?_⟩;obtain⟨dx,e⟩:=rc.ob;obtain⟨ds,v,es,_⟩:=rc.st.ob;refine⟨_,rfl,r.a,R,dx,_,_,rfl,e,RZ.c,RZ.r1,rfl,r.s.a,ds,_,rfl,es,rfl,r.s,d,rfl,rc.st,tl,lo,λl ls H1 s1 U pd=>?_⟩;have pl:=pd.len;have big:1000<=sizeLine:=by decide
 refine⟨l,rfl,⟨_,fj.of U⟩,?_⟩;refine⟨λi m ys σ H'=>m=ls.length-i/\i<=ls.length/\H'=H1/\(∃u v,σ=[u,v])/\ys.length=(((d.tr.take i).flatMap λp=>jy p.2.ln).filter pN).length,⟨ls.length,by simp,aaJ _,rfl,⟨none,none,rfl⟩,by simp⟩,?_⟩;rintro i m ys σ H2⟨rfl,hi,rfl,⟨u,v,rfl⟩,hy⟩;by_cases M:i<ls.length
 ·have ab:i<(ls.map V.ref).length:=by rw[aad];exact M
  refine .inr ⟨⟨_,(ls.map V.ref)[i],fj.of U,aaz ab⟩,λx H' y=>?_⟩;obtain⟨rfl,y⟩:=y;obtain⟨a,ha,rfl⟩:=mY (y _ (fj.of U));obtain⟨p,W,B,c,J⟩:=pd.at ha;dsimp only[eN,qm,List.set];rw[aac rfl];have xl:=J.len;have I:(((d.tr.take (i+1)).flatMap λp=>jy p.2.ln).filter pN).length<=900:=by
   refine aag (aag (List.length_filter_le _ _) ?_) gl;have z:(d.tr.flatMap λp=>jy p.2.ln).length=((d.tr.take (i+1)).flatMap λp=>jy p.2.ln).length+((d.tr.drop (i+1)).flatMap λp=>jy p.2.ln).length:=by rw[<-aas,<-aaU,List.take_append_drop]
   unfold Ni;omega
  rw[iQ W,aaU,abj,aas]at I;have e1:[p].flatMap (λp=>jy p.2.ln)=jy p.2.ln:=by simp
  rw[e1]at I;refine⟨_,rfl,a,rfl,⟨_,fj.of c⟩,λj m D G H3=>m=B.length-j/\j<=B.length/\H3=H'/\(∃v,G=[some (.ref a),v])/\D.length=ys.length+(((jy p.2.ln).take j).filter pN).length,⟨B.length,by simp,aaJ _,rfl,⟨_,rfl⟩,by simp⟩,?_⟩;rintro j m D G H3⟨rfl,hj,rfl,⟨v',rfl⟩,L⟩;by_cases o:j<B.length
  ·refine .inr ⟨⟨_,B[j],fj.of c,aaz o⟩,?_,λx H4 y=>?_⟩
   ·have z:(((jy p.2.ln).take j).filter pN).length<=((jy p.2.ln).filter pN).length:=((acH _ _).filter _).length_le;omega
   ·obtain⟨rfl,y⟩:=y;obtain⟨tg,ad,ae⟩:=J.at (y _ (fj.of c));obtain⟨b,k,zs,rfl,hb,Y⟩:=Ke ae;dsimp only[eN,List.set];refine⟨_,rfl,b,_,_,_,rfl,rfl,gf.of hb,pD,?_⟩;have X:(((jy p.2.ln).take (j+1)).filter pN).length=(((jy p.2.ln).take j).filter pN).length+(if pN tg=true then 1 else 0):=by rw[iQ ad,abj,aas];cases h:pN tg<;>simp[h]
    refine⟨rfl,_,rfl,?_⟩;by_cases hk:k=("event":Str)
    ·rw[aa1 hk]at Y;rw[<-Y,aac rfl]at X;refine j5 (by simp[hk]) ⟨_,rfl,_,(by omega),rfl,o,rfl,⟨_,rfl⟩,?_⟩;rw[aas,X];simp;omega
    ·rw[aaR hk]at Y;rw[<-Y,aab (by decide)]at X;exact gW (by simp[hk]) ⟨_,(by omega),rfl,o,rfl,⟨_,rfl⟩,by rw[X];exact L⟩
  ·have ej:j=B.length:=by omega
   subst ej;refine .inl ⟨⟨_,fj.of c,aaf _⟩,ls.length-(i+1),by omega,rfl,M,rfl,⟨_,_,rfl⟩,?_⟩;rw[xl,aaL]at L;rw[iQ W,aaU,abj,aas,e1];omega
 ·have ei:i=ls.length:=by omega
  subst ei;rw[pl,aaL]at hy;have ag:((Ni d).filter pN).length<=900:=aag (List.length_filter_le _ _) gl;have ac:ys.length=((Ni d).filter pN).length:=hy;refine .inl ⟨⟨_,fj.of U,by rw[aad];exact aaf _⟩,by omega,λp W=>?_⟩;refine⟨p,ys,rfl,.inl (fj.of a_),?_⟩;rw[ac];exact q _ (s1.trans (di.new W))
end
end Cm
namespace Cm
open PySem L2 PySem.W
theorem Paired.snoc2{b c:Type}{R:b->c->Prop}{x:b}{y:c}(h:R x y):∀{d:List b}{ys:List c},Paired R d ys->Paired R (d++[x]) (ys++[y])
 |_,_,.nil=>.cons h .nil
 |_,_,.cons a t=>.cons a (Paired.snoc2 h t)
structure Sx(f:ji):Prop where
 nm:Nm f.1
 lo:-2<=f.2.1
 lt:f.2.1<=10
 le:f.2.1<=f.2.2
 hi:f.2.2<=f.2.1+8
def Sx.ok(h:Sx f):nU f:=⟨h.nm,by have:=h.lo;omega,h.le,by have:=h.lt;have:=h.hi;omega⟩
section
variable{P:ZE}{w:ZH}{K:Zs}{mg:Y1}{base:ZN}
inductive Rk(vs:List V)(H:Hp)(Q:VK)(E:XK):Prop
 |mk (p dc:Zl):vs=[.ref p]->Dr H p dc->(∀(a:Zl)(xs:List V)(fs:List ji)(H':Hp),H' a=some (.tup xs)->Paired (jG H') xs fs->fs.length<=3->(∀f∈fs,Sx f)->(fs.map (·.1)).Nodup->Dr H' p dc->ii p H H'->Q (.ref a) H')->Rk vs H Q E
noncomputable abbrev NSf:List Str:=["_law_d","_law_names","_law_found","_law_title","_law_low"]
def J4:du NSf ["_law_d"] (b_ (top 127)):=by ext
def Tp{f fP fO fW Z:Zl}{fd fdP fdO fdW C:ZB}(F:ir K "_law_small_fields" "_law_small_fields" (top 127) f fd)(T:Txt K mg)(DP:gq K mg "_law_pick" (top 113) ["_law_d","_law_many"] fP fdP)(DO:gq K mg "_law_of" (top 114) ["_law_d","_law_things"] fO fdO)
 (DW:gq K mg "_law_word" (top 116) ["_law_d"] fW fdW)(DWs:gq K mg "_law_words" (top 117) ["_law_d","_law_many"] Z C):dm P w K mg base dU 5 f fd ["_law_d"] Rk:=by
 have GP:dm P w K mg base dU 1 fP fdP ["_law_d","_law_many"] jK:=jH DP.F T;have GO:dm P w K mg base dU 2 fO fdO ["_law_d","_law_things"] (xr K):=vq DO.F T DP;have ae:dm P w K mg base dU 4 Z C ["_law_d","_law_many"] (qW K):=yp DWs.F T DP DO DW;refine F.ok J4 (by ext) λap A aa s H vs Q E hr h=>?_;obtain⟨p,I,rfl,D,k⟩:=h;have af:eZ 1 _:=hr.mono (by decide);have U:eZ 2 _:=hr.mono (by decide);refine⟨_,(bK (jj 1 J4.nd (iJ DWs ae hr (aK (pv 0) (aK (iJ DP GP af (aK (pv 0) (aK dh cZ))) cZ)))) (bK (jj 2 J4.nd (gC cZ)) (bK (j6 aaO rfl (h_ (pv 1)) (jP 3 J4.nd) (bK (jj 4 J4.nd (iJ DO GO U (aK (pv 0) (aK (gC (aK dh (aK (oh lV dh) (aK dh (aK dh cZ))))) cZ)))) (d8 (fc (lE aaZ aa3 aa8 j4 (pv 2) (aK (gw (aK (pv 3) (aK (pv 4) (aK (fX iI (pv 4) (iJ DO GO U (aK (pv 0) (aK (gC (aK dh (aK dh (aK dh (aK dh cZ))))) cZ)))) cZ)))) cZ)))))) (d8 (dw (jJ jn (by rfl) T.tuple jE (aK (pv 2) cZ))))))),?_⟩;refine⟨_,rfl,_,rfl,p,I,_,rfl,D,by decide,by decide,λm aq m0 m1 ab ac=>?_⟩;refine⟨p,I,m,rfl,ab,m0,by omega,λq ys H1 e1 hq hl hy nd D1 ad=>?_⟩;have t1:=ac.trans ad;refine⟨(by ext),λq2 B=>?_⟩;have ag:=D1.new (o:=.lst []) B;have W:(upd H1 q2 (.lst [])) q=some (.lst (ys.map V.str)):=(di.new B) _ _ e1;have nq:q2≠q:=(dg e1 B).symm;have ah:H q2=none:=by
  cases e:H q2 with
  |none=>rfl
  |some o=>rw[t1 q2 o e (D1.neN B).symm]at B;cases B
 have X:q2≠I:=by obtain⟨g,e⟩:=D1.cell;exact(dg e B).symm
 refine⟨_,rfl,q,rfl,⟨_,fj.of W⟩,iW (xs:=ys.map V.str) (λi σ j=>∃(g:List V)(fs:List ji)(a b:Option V),σ=[some (.ref p),some (.ref q),some (.ref q2),a,b]/\j q=some (.lst (ys.map V.str))/\j q2=some (.lst g)/\Paired (jG j) g fs/\fs.map (·.1)=ys.take i/\(∀f∈fs,Sx f)/\Dr j p I/\ii p H j) ⟨[],[],none,none,rfl,W,a_,.nil,by simp,(λ_ h=>by cases h),ag,t1.trans (ii.new B)⟩ (λi σ j _⟨_,_,_,_,_,e,_⟩=>fj.of e) ?_ ?_⟩
 ·rintro i y σ j hi⟨g,fs,a,b,rfl,g1,N,pf,O,hf,J,t2⟩;rw[aao]at hi;obtain⟨n,G,rfl⟩:=abC.mp hi;have au:i<ys.length:=(aar.mp G).1;have np:∀{b:Zl}{ws:List V}{H':Hp},Dr H' p I->H' b=some (.lst ws)->b≠p:=λd e=>d.ne e (by intro av z;cases z);refine⟨_,rfl,_,rfl,(by ext),λq3 h3=>?_⟩;refine⟨p,I,q3,_,rfl,J.new h3,fj.of a_,by simp,by simp,λx H5 R D5 t5=>?_⟩;obtain⟨M,rfl,al,am⟩:∃z:Int,x=.int z/\-2<=z/\z<=10:=by
   simp only[aai,aa4,or_false]at R;rcases R with rfl|rfl|rfl|rfl
   all_goals exact⟨_,rfl,by decide,by decide⟩
  have Y:ii p j H5:=(ii.new h3).trans t5;have ai:H5 q2=some (.lst g):=Y q2 _ N (np J N);refine⟨_,rfl,.inl ⟨rfl,_,fj.of ai⟩,_,rfl,_,rfl,_,rfl,_,rfl,(by ext),λq5 h5=>?_⟩;refine⟨p,I,q5,_,rfl,D5.new h5,fj.of a_,by simp,by simp,λx S R D6 t6=>?_⟩;obtain⟨z,rfl,z0,z1⟩:∃z:Int,x=.int z/\0<=z/\z<=8:=by
   simp only[aai,aa4,or_false]at R;rcases R with rfl|rfl|rfl|rfl
   all_goals exact⟨_,rfl,by decide,by decide⟩
  have v:ii p j S:=Y.trans ((ii.new h5).trans t6);have aj:S q=some (.lst (ys.map V.str)):=v q _ g1 (np J g1);have ak:S q2=some (.lst g):=v q2 _ N (np J N);have k5:TK j S:=TK.but J v;refine⟨_,_,rfl,rfl,(by ext),λq4 L=>?_⟩;have c:∀o,(upd S q4 o) q2=some (.lst g):=λo=>(di.new L) _ _ ak;have ao:fs.length=i:=by have:=aaB List.length O;rw[aad,aaS]at this;omega
  have pl:=aaV pf;refine⟨q2,g,_,rfl,rfl,c _,nW (by omega),?_⟩;refine⟨g++[.ref q4],fs++[(n,M,M+z)],_,_,rfl,?_,a_,?_,?_,?_,?_,?_⟩
  ·rw[c7 nq.symm];exact(di.new L) _ _ aj
  ·refine Paired.snoc2 ⟨q4,rfl,?_⟩ (j7 pf (k5.trans ((TK.new L).trans (TK.lst (c _)))));exact(TK.lst (c _)) _ _ a_
  ·rw[aaw,O,aaT,G];rfl
  ·intro f r;rcases aak.mp r with r|r
   ·exact hf f r
   ·obtain rfl:f=(n,M,M+z):=by simpa using r
    exact⟨hy n (aaj G),al,am,by dsimp only;omega,by dsimp only;omega⟩
  ·exact(D6.new L).put (np (D6.new (o:=.tup [.str n,.int M,.int (M+z)]) L) (c _)) X
  ·intro b o e hb;rw[c7 (dg e ah)];exact(di.new L) _ _ ((t2.trans v) b o e hb)
 ·rintro σ j⟨g,fs,a,b,rfl,g1,N,pf,O,hf,J,t2⟩;rw[aad,aaL]at O;refine⟨_,rfl,q2,g,rfl,.inl ⟨fj.of N,λl G=>?_⟩⟩;refine k l g fs _ a_ (j7 pf (TK.new G)) ?_ hf (by rw[O];exact nd) (J.new G) (t2.trans (ii.new G));rw[<-aad (f:=(·.1)),O];omega
end
open PySem.Spec PyProof.Rows
noncomputable def Nz(H:Hp)(x:V)(t:Str×List ji):Prop:=∃b a c,x=.ref b/\H b=some (.tup [.str t.1,.ref a])/\H a=some (.tup c)/\Paired (jG H) c t.2
structure Zh(t:Str×List ji):Prop where
 nm:Nm t.1
 ln:t.2.length<=3
 sm:∀f∈t.2,Sx f
 nd:(t.2.map (·.1)).Nodup
section
variable{P:ZE}{w:ZH}{K:Zs}{mg:Y1}{base:ZN}{H H' H'':Hp}
def Nz.tk(h:Nz H x t)(k:TK H H'):Nz H' x t:=by obtain⟨b,a,c,e,d,f,g⟩:=h;exact⟨b,a,c,e,k _ _ d,k _ _ f,j7 g k⟩
noncomputable def kk(x:Str):Key:=Sum.inr x
noncomputable def cK(a b lt c:Zl):List (Key×V):=[(kk "kinds",.ref a),(kk "lanes",.ref b),(kk "tallies",.ref lt),(kk "fields",.ref c)]
noncomputable def Zc(a:List V):Prop:=∃ys:List Str,a=ys.map V.str/\ys≠[]/\∀y∈ys,Nm y
structure Vm(H:Hp)(c:Zl)(kts:List (Str×List ji))(ws:Y2):Prop where
 ex:∃lk ll lt lf ks us,H c=some (.dK (cK lk ll lt lf))/\H lk=some (.lst ks)/\Pd (Nz H) ks kts/\H ll=some (.lst (ws.map V.str))/\H lf=some (.lst us)/\us.length<=100/\Zc us
structure Nj(kts:List (Str×List ji))(ws:Y2):Prop where
 kl:kts.length=3
 ko:∀t∈kts,Zh t
 kd:(kts.map (·.1)).Nodup
 wl:3<=ws.length
 wo:∀x∈ws,Nm x
 wd:ws.Nodup
def Dr.set(D:Dr H p f)(n:c≠p)(e:H c=some (.dK d)):Dr (upd H c o) p f:=by obtain⟨g,a,r,s,h,b,k⟩:=D.ex;exact⟨g,a,r,s,by rw[c7 n.symm];exact h,by rw[c7 (λz=>by rw[z,e]at b;cases b)];exact b,k⟩
def Rb{a b c d:Key}{x y z u e:V}(f:a≠d)(g:b≠d)(h:c≠d):putK [(a,x),(b,y),(c,z),(d,u)] d e=[(a,x),(b,y),(c,z),(d,e)]:=by unfold putK;rw[aac (by simp)];simp[f,g,h]
def tE{k:Key}:jq [(a,x),(b,y),(c,z),(d,u)] k=if a=k then some x else if b=k then some y else if c=k then some z else if d=k then some u else none:=by
 by_cases e:a=k
 ·rw[aac e];simp[jq,e]
 ·rw[aab e];by_cases f:b=k
  ·rw[aac f];simp[jq,e,f]
  ·rw[aab f];by_cases g:c=k
   ·rw[aac g];simp[jq,e,f,g]
   ·rw[aab g];by_cases h:d=k
    ·rw[aac h];simp[jq,e,f,g,h]
    ·rw[aab h];simp[jq,e,f,g,h]
structure Bq(H:Hp)(p dc c lk:Zl)(out:List V)(kts:List (Str×List ji))(X:Hp)(kvs:List (Key×V)):Prop where
 D:Dr X p dc
 ec:X c=some (.dK kvs)
 l:X lk=some (.lst out)
 k:Pd (Nz X) out kts
 b:∀b u,H b=some u->b≠p->X b=some u
 n:c≠p
 h:H c=none
def Bq.but(s:Bq H p g c i a f X d)(t:ii p X Y)(D:Dr Y p g):Bq H p g c i a f Y d:=
 ⟨D,t _ _ s.ec s.n,t _ _ s.l (s.D.ne s.l (by intro _ h;cases h)),s.k.map λ_ _ r=>r.tk (TK.but s.D t),λb u e n=>t _ _ (s.b b u e n) n,s.n,s.h⟩
def Bq.set(s:Bq H p j c g d f X i):Bq H p j c g d f (upd X c (.dK kvs')) kvs':=
 ⟨s.D.set s.n s.ec,a_,by rw[c7 (λz=>by have:=s.l;rw[z,s.ec]at this;cases this)];exact s.l,s.k.map λ_ _ r=>r.tk λb a e=>by rw[c7 (λz=>by rw[z,s.ec]at e;cases e)];exact e,λb u e n=>by rw[c7 (dg e s.h)];exact s.b b u e n,s.n,s.h⟩
def Bq.lst{X:Hp}(s:Bq H p j c i d g X f){l:Zl}{a:List V}(e:X l=some (.lst a)){kvs':List (Key×V)}:upd X c (.dK kvs') l=some (.lst a):=by rw[c7 (λz=>by rw[z,s.ec]at e;cases e)];exact e
def Bq.nl{X:Hp}(s:Bq H p j c i d g X f){l:Zl}{a:List V}(e:X l=some (.lst a)):l≠p:=s.D.ne e (by intro _ h;cases h)
inductive zX(vs:List V)(H:Hp)(Q:VK)(E:XK):Prop
 |mk (p dc:Zl):vs=[.ref p]->Dr H p dc->(∀(c:Zl)kts ws H',Vm H' c kts ws->Nj kts ws->c≠p->Dr H' p dc->ii p H H'->Q (.ref c) H')->zX vs H Q E
def wR:du ["_law_d","_law_c","_law_title","_law_fields"] ["_law_d"] (b_ (top 128)):=by ext
def KJ{f fP fO fW fWs fS:Zl}{fd fdP fdO fdW Z fdS:ZB}(F:ir K "_law_cast" "_law_cast" (top 128) f fd)(T:Txt K mg)(DP:gq K mg "_law_pick" (top 113) ["_law_d","_law_many"] fP fdP)(DO:gq K mg "_law_of" (top 114) ["_law_d","_law_things"] fO fdO)
 (DW:gq K mg "_law_word" (top 116) ["_law_d"] fW fdW)(M:gq K mg "_law_words" (top 117) ["_law_d","_law_many"] fWs Z)(DS:gq K mg "_law_small_fields" (top 127) ["_law_d"] fS fdS):dm P w K mg base dU 6 f fd ["_law_d"] zX:=by
 have GP:dm P w K mg base dU 1 fP fdP ["_law_d","_law_many"] jK:=jH DP.F T;have GW:dm P w K mg base dU 3 fW fdW ["_law_d"] vN:=Bj DW.F T DP DO;have ad:dm P w K mg base dU 4 fWs Z ["_law_d","_law_many"] (qW K):=yp M.F T DP DO DW;have GS:dm P w K mg base dU 5 fS fdS ["_law_d"] Rk:=Tp DS.F T DP DO DW M;refine F.ok wR (by ext) λaz A aj s H vs Q E hr h=>?_;obtain⟨p,O,rfl,D,k⟩:=h;have hu:=pO hr;have ak:eZ 1 _:=hr.mono (by decide);have al:eZ 3 _:=hr.mono (by decide);have ae:eZ 4 _:=hr.mono (by decide);refine⟨_,(bK (jj 1 wR.nd (qR (jD dC (jb (g:=eN 0) (own:=["_law_title"]) (js:=[0]) (N':=["_law_title","_law_d"]) (dX.of (osc:=b_ (top 128)) (N:=["_law_d","_law_c","_law_title","_law_fields"]) rfl rfl (by ext)) rfl (h_ (iJ M ad ae (aK (pv 0) (aK dh cZ)))) (λ_ _ _ _ _=>(fZ (i:=0) (show List.Nodup (["_law_title","_law_d"]:Y2) by ext) rfl (.inl rfl) (.inr rfl))) (λ_ _ _ _ _=>gF) (λ_ _ _ _ _=>gw (aK (pv 0) (aK (iJ DS GS hr (aK (pv 1) cZ)) cZ)))) qN) rfl rfl (ab4 _ _) (by show 1<=15;decide))) (bK (jo hu (pv 1) dC (iJ M ad ae (aK (pv 0) (aK (dZ g_ (gC (aK dh (aK dh (aK dh (aK dh cZ))))) (iJ DP GP ak (aK (pv 0) (aK dh cZ)))) cZ))) rfl) (bK (jo hu (pv 1) dC (iJ M ad ae (aK (pv 0) (aK dh cZ))) rfl) (bK (jo hu (pv 1) dC (gC (aK (iJ DW GW al (aK (pv 0) cZ)) cZ)) rfl) (bK (j6 aaO rfl (h_ (fQ hu (pv 1) dC)) (iy rfl (dJ (jP 2 wR.nd) (dJ (jP 3 wR.nd) gP))) (d8 (jo hu (pv 1) dC (fX R3 (jb (g:=eN 0) (own:=["_law_field"]) (js:=[]) (N':=["_law_field"]) (dX.of (osc:=b_ (top 128)) (N:=["_law_d","_law_c","_law_title","_law_fields"]) rfl rfl (by ext)) rfl (kY (pv 3)) (λ_ _ _ _ _=>(fZ (i:=0) (show List.Nodup (["_law_field"]:Y2) by ext) rfl (.inl rfl) (.inr rfl))) (λ_ _ _ _ _=>gF) (λ_ _ _ _ _=>dZ (r:=qg K) eU (pv 0) dh)) (fQ hu (pv 1) dC)) rfl))) (d8 (dw (pv 1)))))))),?_⟩;refineλc hc=>?_;have D0:=D.new (o:=.dK []) hc;have J:c≠p:=(D.neN hc).symm;have t0:ii p H (upd H c (.dK [])):=ii.new hc;refine⟨_,rfl,p,O,3,rfl,D0,by decide,by decide,λq ys H1 e1 hq hl hy nd D1 t1=>⟨q,rfl,⟨_,fj.of e1⟩,?_⟩⟩;have c1:H1 c=some (.dK []):=t1 _ _ a_ J;have ao:q≠p:=D1.ne e1 (by intro _ h;cases h);refine iY (xs:=ys.map V.str) (λi d n I=>(∃v,n=[v,some (.ref p)])/\Dr I p O/\ii p H1 I/\∃B:List (Str×List ji),Pd (Nz I) d B/\B.map (·.1)=ys.take i/\∀t∈B,Zh t) (by rw[aad];exact aag (show ys.length<=3 by omega) (by decide)) ⟨⟨none,rfl⟩,D1,ii.refl,[],.nil,rfl,λt m=>by cases m⟩ (λi d n I _ z=>fj.of (z.2.2.1 _ _ e1 ao)) ?_ ?_
 ·rintro i x d n H2 hx ho⟨⟨v,rfl⟩,D2,b2,B,pd,ek,L⟩N hN;obtain⟨y,ah,rfl⟩:=mY hx;dsimp only[eN,List.set];refine⟨_,rfl,_,rfl,p,O,rfl,D2,λa xs fs H3 ha pf fl sm fn D3 t3=>⟨(by ext),λb hb=>hN _ _ _ (by simpa using ho) ⟨⟨_,rfl⟩,D3.new hb,(b2.trans t3).trans (ii.new hb),B++[(y,fs)],?_,?_,?_⟩⟩⟩
  ·have k3:=TK.but D2 t3;have k4:TK H3 (upd H3 b (.tup [.str y,.ref a])):=TK.new hb;exact Pd.app (.cons ⟨b,a,xs,rfl,a_,k4 _ _ ha,j7 pf k4⟩ .nil) (pd.map λ_ _ r=>r.tk (k3.trans k4))
  ·rw[aaw,ek,iQ ah];rfl
  ·intro t m;rcases aak.mp m with m|m
   ·exact L t m
   ·cases aam.mp m;exact⟨hy y (aaj ah),fl,sm,fn⟩
 ·rintro d n H2 ho⟨_,D2,b2,B,pd,ek,L⟩;rw[aad,aaL]at ek;refine⟨by rw[ho,aad];exact aag (show ys.length<=3 by omega) (by decide),λl R=>?_⟩;have ap:c≠l:=dg (b2 _ _ c1 J) R;have c3:upd H2 l (.lst d) c=some (.dK []):=by rw[c7 ap];exact b2 _ _ c1 J
  have D3:=D2.new (o:=.lst d) R;refine⟨c3,[(kk "kinds",.ref l)],rfl,(show 1<=15 by decide),?_⟩;have e3:upd H2 l (.lst d) l=some (.lst d):=a_;have af:Pd (Nz (upd H2 l (.lst d))) d B:=pd.map λ_ _ r=>r.tk (TK.new R);have b3:ii p H (upd H2 l (.lst d)):=((t0.trans t1).trans b2).trans (ii.new R);generalize upd H2 l (.lst d)=H3 at c3 D3 e3 af b3|-;have aq:oJ [] [(kk "kinds",V.ref l)]=[(kk "kinds",V.ref l)]:=rfl;rw[aq];have s4:Bq H p O c l d B (upd H3 c (.dK [(kk "kinds",.ref l)])) [(kk "kinds",.ref l)]:=(Bq.mk (kvs:=[]) D3 c3 e3 af b3 J hc).set;clear c3 D3 e3 af b3;generalize upd H3 c (.dK [(kk "kinds",.ref l)])=H4 at s4|-;have D4:=s4.D;dsimp only[eN];refine⟨_,rfl,(by ext),λl4 aa=>⟨_,rfl,p,O,4,rfl,D4.new aa,by decide,by decide,λr H5 r0 r1 D5 t5=>?_⟩⟩;have au:∃m:Int,qF [V.int 3,.int 3,.int 3,.int 6] r=some (.int m)/\3<=m/\m<=6:=by
   rcases(show r=0\/r=1\/r=2\/r=3 by omega)with rfl|rfl|rfl|rfl
   ·exact⟨3,rfl,by decide,by decide⟩
   ·exact⟨3,rfl,by decide,by decide⟩
   ·exact⟨3,rfl,by decide,by decide⟩
   ·exact⟨6,rfl,by decide,by decide⟩
  obtain⟨m,am,m3,m6⟩:=au;have av:=(ii.new (p:=p) (o:=.lst [V.int 3,.int 3,.int 3,.int 6]) aa).trans t5;have l5:=t5 l4 _ a_ (D4.neN aa).symm;refine⟨l4,_,r,_,rfl,rfl,fj.of l5,am,p,O,m,rfl,D5,by omega,by omega,λG ws H6 ew aA wl wo wd D6 t6=>?_⟩;have s6:=s4.but (av.trans t6) D6;refine⟨_,rfl,c,_,rfl,o8.k (k:=kk "lanes") s6.ec (show 1<sizeLine by decide),?_⟩;rw[mG (λp m=>by cases aam.mp m;show kk "kinds"≠kk "lanes";decide+kernel)];have s7:=s6.set (kvs':=[(kk "kinds",.ref l)]++[(kk "lanes",.ref G)]);have w7:=s6.lst (kvs':=[(kk "kinds",.ref l)]++[(kk "lanes",.ref G)]) ew;generalize upd H6 c (.dK ([(kk "kinds",.ref l)]++[(kk "lanes",.ref G)]))=H7 at s7 w7|-;refine⟨_,rfl,p,O,2,rfl,s7.D,by decide,by decide,λlt ts H8 et aB tl to td D8 t8=>?_⟩;have s8:=s7.but t8 D8;have w8:=t8 _ _ w7 (s7.nl w7);refine⟨_,rfl,c,_,rfl,o8.k (k:=kk "tallies") s8.ec (show 2<sizeLine by decide),?_⟩;rw[mG (λp m=>by
   rcases aak.mp m with m|m
   ·cases aam.mp m;show kk "kinds"≠kk "tallies";decide+kernel
   ·cases aam.mp m;show kk "lanes"≠kk "tallies";decide+kernel)];have s9:=s8.set (kvs':=[(kk "kinds",.ref l)]++[(kk "lanes",.ref G)]++[(kk "tallies",.ref lt)]);have w9:=s8.lst (kvs':=[(kk "kinds",.ref l)]++[(kk "lanes",.ref G)]++[(kk "tallies",.ref lt)]) w8;generalize upd H8 c (.dK ([(kk "kinds",.ref l)]++[(kk "lanes",.ref G)]++[(kk "tallies",.ref lt)]))=H9 at s9 w9|-;refine⟨_,rfl,p,O,rfl,s9.D,λx HA nx DA tA=>⟨(by ext),λC ab=>?_⟩⟩;have sA:=s9.but (tA.trans (ii.new (o:=.lst [.str x]) ab)) (DA.new ab);have wA:=(tA.trans (ii.new (o:=.lst [.str x]) ab)) _ _ w9 (s9.nl w9);have fA:upd HA C (.lst [.str x]) C=some (.lst [.str x]):=a_;generalize upd HA C (.lst [.str x])=HB at sA wA fA|-;refine⟨_,rfl,c,_,rfl,o8.k (k:=kk "fields") sA.ec (show 3<sizeLine by decide),?_⟩;rw[mG (λp m=>by
   rcases aak.mp m with m|m
   ·rcases aak.mp m with m|m
    ·cases aam.mp m;show kk "kinds"≠kk "fields";decide+kernel
    ·cases aam.mp m;show kk "lanes"≠kk "fields";decide+kernel
   ·cases aam.mp m;show kk "tallies"≠kk "fields";decide+kernel)];have sC:Bq H p O c l d B (upd HB c (.dK (cK l G lt C))) (cK l G lt C):=sA.set;have wC:=sA.lst (kvs':=cK l G lt C) wA;have fC:=sA.lst (kvs':=cK l G lt C) fA;generalize ai:upd HB c (.dK ([(kk "kinds",V.ref l)]++[(kk "lanes",V.ref G)]++[(kk "tallies",V.ref lt)]++[(kk "fields",V.ref C)]))=HC;have W:upd HB c (.dK (cK l G lt C))=HC:=ai;rw[W]at sC wC fC;clear ai W;have gk:∀{X:Hp} {C:Zl},X c=some (.dK (cK l G lt C))->j8 X c (.str "kinds") (some (.ref l))/\j8 X c (.str "fields") (some (.ref C)):=λ{X C}e=>by
   refine⟨?_,?_⟩
   ·have:=j8.k (k:=kk "kinds") e;unfold cK at this;rw[tE,aac rfl]at this;exact this
   ·have:=j8.k (k:=kk "fields") e;unfold cK at this;rw[tE,aab (by ext),aab (by ext),aab (by ext),aac rfl]at this;exact this
  have ol:d.length=B.length:=pd.len;have kl:B.length=3:=by have:=aaB List.length ek;rw[aad]at this;omega
  refine⟨_,rfl,c,_,rfl,(gk sC.ec).1,l,rfl,⟨_,fj.of sC.l⟩,?_⟩;refine iW (xs:=d) (λj n I=>(∃u v,n=[some (.ref p),some (.ref c),u,v])/\∃C us,Bq H p O c l d B I (cK l G lt C)/\I G=some (.lst (ws.map V.str))/\I C=some (.lst us)/\us.length<=1+3*j/\Zc us) ⟨⟨_,_,rfl⟩,C,_,sC,wC,fC,aaf _,[x],rfl,ab4 _ _,λy m=>by cases aam.mp m;exact nx⟩ (λj n I _ z=>by obtain⟨_,_,_,z,_⟩:=z;exact fj.of z.l) ?_ ?_
  ·rintro j y n HD hj⟨⟨u,v,rfl⟩,ag,us,U,wD,fD,ul,yu,rfl,_,yn⟩;obtain⟨t,ht,b,a,xs,rfl,eb,ea,pf⟩:=U.k.at hj;have j3:j<3:=by have:=(aar.mp hj).1;omega
   refine⟨b,_,rfl,gf.of eb,rfl,_,_,rfl,_,_,rfl,rfl,?_⟩;refine⟨_,rfl,a,rfl,⟨_,gf.of ea⟩,?_⟩;have xl:xs.length<=3:=by rw[aaV pf];exact(L t (aaj ht)).ln
   refine iY (xs:=xs) (λi ys n I=>(∃v,n=[v])/\I=HD/\ys=((t.2.map (·.1)).take i).map V.str) (aag xl (by decide)) ⟨⟨none,rfl⟩,rfl,rfl⟩ (λi ys n I _ z=>by rw[z.2.1];exact gf.of ea) ?_ ?_
   ·rintro i x aC n HE hx ay⟨⟨v',rfl⟩,rfl,rfl⟩N hN;obtain⟨f',aw,b',rfl,ax⟩:=jA pf hx;dsimp only[eN,List.set];exact⟨_,rfl,b',_,_,_,rfl,rfl,gf.of ax,pD,hN _ _ _ (by simpa using ay) ⟨⟨_,rfl⟩,rfl,by rw[iQ (show(t.2.map (·.1))[i]?=some f'.1 by rw[aao,aw];rfl),aaw];rfl⟩⟩
   ·rintro Y n HE hz⟨_,rfl,ez⟩;rw[aaV pf,<-aad (f:=λf:ji=>f.1),aaL]at ez;refine⟨aag (show Y.length<=3 by omega) (by decide),λl1 S=>?_⟩;have sE:=U.but (ii.new (o:=.lst Y) S) (U.D.new S);have wE:=(di.new (o:=.lst Y) S) _ _ wD;have fE:=(di.new (o:=.lst Y) S) _ _ fD;refine⟨_,rfl,c,_,rfl,(gk sE.ec).2,l1,ag,Y,_,rfl,rfl,a_,fE,aag (show Y.length+(yu.map V.str).length<=100 by omega) (by decide),λl2 ac=>?_⟩;have sF:=sE.but (ii.new (o:=.lst (Y++yu.map V.str)) ac) (sE.D.new ac);have wF:=(di.new (o:=.lst (Y++yu.map V.str)) ac) _ _ wE;refine⟨_,rfl,c,_,rfl,o8.k (k:=kk "fields") sF.ec (show 4<sizeLine by decide),?_⟩;unfold cK;rw[Rb (by ext) (by ext) (by ext)];refine⟨⟨_,_,rfl⟩,l2,_,sF.set,sF.lst wF,sF.lst a_,by rw[aas];omega,t.2.map (·.1)++yu,by rw[ez,aaw],by simp[‹yu≠[]›],λy m=>?_⟩;rcases aak.mp m with m|m
    ·obtain⟨f,mf,rfl⟩:=aap.mp m;exact((L t (aaj ht)).sm f mf).ok.nm
    ·exact yn y m
  ·rintro n HD⟨⟨u,v,rfl⟩,ag,us,U,wD,fD,ul,uo⟩;refine⟨_,rfl,k c B ws HD ⟨l,G,lt,ag,d,us,U.ec,U.l,U.k,wD,fD,by omega,uo⟩ ⟨kl,L,by rw[ek];exact nd,by omega,wo,wd⟩ J U.D U.b⟩
end
end Cm
namespace Cm
open PySem L2 PySem.W
section
variable{P:ZE}{w:ZH}{K:Zs}{mg:Y1}{base:ZN}
def wQ(e:H a=some (.dK (cK f g lt h))):j8 H a (.str "lanes") (some (.ref g))/\j8 H a (.str "kinds") (some (.ref f))/\j8 H a (.str "fields") (some (.ref h)):=by have b:=j8.k (k:=kk "lanes") e;have c:=j8.k (k:=kk "kinds") e;have d:=j8.k (k:=kk "fields") e;unfold cK at b c d;rw[tE,aab (by ext),aac rfl]at b;rw[tE,aac rfl]at c;rw[tE,aab (by ext),aab (by ext),aab (by ext),aac rfl]at d;exact⟨b,c,d⟩
inductive HR(K:Zs)(vs:List V)(H:Hp)(Q:VK)(E:XK):Prop
 |mk (p dc c:Zl) (kts:List (Str×List ji)) (ws:Y2):vs=[.ref p,.ref c]->Dr H p dc->Vm H c kts ws->Nj kts ws->(∀(x:V)(d:PyData)(H':Hp),Rep K H' x d->Tr 5 d->jx d=true->Dr H' p dc->ii p H H'->Q x H')->HR K vs H Q E
def RW:du ["_law_d","_law_c"] ["_law_d","_law_c"] (b_ (top 129)):=by ext
def Ol(F:ir K "_law_cast_test" "_law_cast_test" (top 129) f Y)(J:gq K mg "_law_test" (top 123) ["_law_d","_law_names","_law_kinds"] X q)(GT:dm P w K mg base dU 10 X q ["_law_d","_law_names","_law_kinds"] (Og K)):dm P w K mg base dU 11 f Y ["_law_d","_law_c"] (HR K):=by
 refine F.ok RW (by ext) λZ A C s H vs Q E L h=>?_;obtain⟨p,dc,c,o,ws,rfl,D,ca,O,k⟩:=h;have M:=pO L;refine⟨_,(d8 (dw (pG (E:=E0) GT (L.mono (by decide)) rfl J.mg J.F.kp J.b .nil dR (aK (pv 0) (aK (fQ M (pv 1) dC) (aK (jb (g:=Fp K 2 (oE (eN 0) (oE (eN 1) J3))) (own:=["_law_title","_law_fields"]) (js:=[]) (N':=["_law_title","_law_fields"]) (dX.of (osc:=b_ (top 129)) (N:=["_law_d","_law_c"]) rfl rfl (by ext)) rfl (h_ (fQ M (pv 1) dC)) (λ_ _ _ _ _=>(iy rfl (dJ (fZ (i:=0) (show List.Nodup (["_law_title","_law_fields"]:Y2) by ext) rfl (.inl rfl) (.inr rfl)) (dJ (fZ (i:=1) (show List.Nodup (["_law_title","_law_fields"]:Y2) by ext) rfl (.inl rfl) (.inr rfl)) gP)))) (λ_ _ _ _ _=>gF) (λ_ _ _ _ _=>pv 0)) cZ)))))),?_⟩;obtain⟨lk,ll,lt,lf,R,us,e1,S,T,_,ef,U,ys,rfl,yn,yo⟩:=ca.ex;obtain⟨_,g2,g3⟩:=wQ e1;rw[aad]at U;have kl:=T.len;have I:=O.kl;refine⟨_,rfl,_,rfl,c,_,rfl,g3,_,rfl,c,_,rfl,g2,lk,rfl,⟨_,fj.of S⟩,?_⟩;refine iY (xs:=R) (λi j n B=>(∃u v,n=[u,v])/\B=H/\j=((o.map (·.1)).take i).map V.str) (aag (show R.length<=3 by omega) (by decide)) ⟨⟨none,none,rfl⟩,rfl,rfl⟩ (λi j n B _ z=>by rw[z.2.1];exact fj.of S) ?_ ?_
 ·rintro i x j n H2 hx W⟨⟨u,v,rfl⟩,rfl,rfl⟩N hN;obtain⟨t,ht,b,a,xs,rfl,hb,ha,pf⟩:=T.at hx;refine⟨b,_,rfl,gf.of hb,rfl,_,_,rfl,_,_,rfl,rfl,?_⟩;exact⟨_,rfl,hN _ _ _ (by simpa using W) ⟨⟨_,_,rfl⟩,rfl,by rw[iQ (show(o.map (·.1))[i]?=some t.1 by rw[aao,ht];rfl),aaw];rfl⟩⟩
 ·rintro j n H2 W⟨_,rfl,rfl⟩;rw[kl,<-aad (f:=λt:Str×List ji=>t.1),aaL];refine⟨by simp[I];decide,λl G=>?_⟩;exact⟨p,dc,lf,l,ys,o.map (·.1),rfl,D.new G,fj.of (di.new G _ _ ef),fj.of a_,yn,by intro z;have:=aaB List.length z;simp[I]at this,U,by simp[I],yo,λy m=>by obtain⟨t,mt,rfl⟩:=aap.mp m;exact(O.ko t mt).nm,λx d B r t e D' b=>k x d B r t e D' ((ii.new G).trans b)⟩
end
structure Gv(A:List Cl)(n:Ln)(ck:Int):Prop where
 pg:n.pg≠[]
 go:∀p∈n.pg,p.go=0
 cl:iu n=A
 gv:∀c∈A,c.gv=true
 nd:(A.map (·.tk)).Nodup
 tk:∀c∈A,c.tk<=n.tks
 kd:∀c∈A,tO c.nm c.fi
 vl:∀c∈A,c.vs.length<=60
 us:∀p∈n.pg,p.us<=4*(p.cs.length:Int)
 fu:∀p∈n.pg.dropLast,3<=p.cs.length
 mo:n.most=16
 ro:n.room=12
 he:n.held=false
 to:n.told=0
 giv:n.giv=A.length
 la:∀t,n.last=some t->t<=ck
def Gv.new:Gv [] (m9 16 12 false) 0:=
 ⟨by simp[m9],λp m=>by cases aam.mp m;rfl,rfl,(λ_ m=>by cases m),abe,(λ_ m=>by cases m),(λ_ m=>by cases m),(λ_ m=>by cases m),λp m=>by cases aam.mp m;decide,λp m=>by simp[m9]at m,rfl,rfl,rfl,rfl,rfl,(λt h=>by cases h)⟩
def Gv.tick(h:Gv A n a)(l:a<=b):Gv A n b:={h with la:=λt e=>ab7 (h.la t e) l}
theorem yr:∀a:List Pg,(∀p∈a,3<=p.cs.length)->3*a.length<=(a.flatMap (·.cs)).length
 |[],_=>aaf _
 | p::r,h=>by have:=yr r λq m=>h q (aah _ m);have:=h p (aal ..);simp only[aaA,aas,aav];omega
def Gv.few(h:Gv A n c):3*n.pg.length<=A.length+3:=by obtain⟨r,p,e,_⟩:=pC h.pg;have b:=h.fu;have a:=h.cl;rw[e,aca]at b;have:=yr r b;unfold iu at a;rw[e,aaU]at a;rw[e,<-a,aas,aas];simp only[aav,aa6];omega
def Hr(h:∀c∈cs,c.gv=true):vR cs=[]:=by unfold vR;rw[List.filter_eq_nil_iff];intro c m;simp[h c m]
def Gv.ok(h:Gv A n o)(j:A.length<=39)(i:Pd ug fs l):Hx fs o l n:=by
 have f:=h.few;have cs:∀m∈n.pg,∀c∈m.cs,c∈A:=λm d c g=>by rw[<-h.cl];exact aaM.mpr ⟨m,d,g⟩
 refine⟨⟨h.pg,by rw[h.mo];decide,by omega,λm d=>?_,h.la⟩,?_,?_,by omega,by rw[h.cl];omega,by rw[h.cl];exact h.nd,by rw[h.cl];exact h.tk,i⟩
 ·have:m.cs.length<=(iu n).length:=by obtain⟨a,b,e⟩:=List.append_of_mem d;unfold iu;rw[e,aaU,aaA];simp only[aas];omega
  rw[h.cl]at this;omega
 ·have:wZ n=0:=by unfold wZ;rw[h.he];rfl
  rw[this,h.mo];omega
 ·unfold wait;rw[List.flatMap_eq_nil_iff];exactλp m=>Hr λc g=>h.gv c (cs p m c g)
def Gv.lno(h:Gv A n e)(d:A.length<=40):zy n/\n.pg.length<=900/\(iu n).length<=900/\(Cm.stand n).length<=900:=by
 have f:=h.few;have a:(iu n).length<=900:=by rw[h.cl];omega
 refine⟨⟨by rw[h.mo];decide,by rw[h.mo];decide,by rw[h.ro];decide,by rw[h.ro];decide,λp m c b=>h.kd c (by rw[<-h.cl];exact aaM.mpr ⟨p,m,b⟩)⟩,by omega,a,aag (oW n.pg 0) a⟩
def Gv.look(h:Gv A n a):jy n=evs (idx 0 A):=by unfold jy Cm.stand;rw[sX n.pg 0 h.go (by have:=h.cl;unfold iu at this;rw[this];exact h.gv),h.to];have:=h.cl;unfold iu at this;rw[this];exact uy 0 A
noncomputable def K5(nm:Str)(fs:List ji)(a:Int)(b:List Int)(n:Ln):Cl:={gh (n.tks+1) a nm fs with vs:=b,gv:=true}
theorem Gv.put(h:Gv A n L)(s:Wu fs n r p)(F:tO nm fs)(J:fs.length<=3)(G:M.length<=60)(b:Bool):Gv (if b=true then A++[K5 nm fs L M n]else A) (R6 nm fs L M n r p b) L:=by
 have B:=h.ro;have C:(∀q∈r++[p],q.go=0)/\(r++[p]).flatMap (·.cs)=A/\(∀q∈r++[p],q.us<=4*(q.cs.length:Int))/\∀q∈r,3<=q.cs.length:=by
  rcases s with⟨e,_⟩|⟨e,rfl,lt⟩
  ·rw[<-e];have d:=h.fu;rw[e,aca]at d;exact⟨h.go,h.cl,h.us,d⟩
  ·obtain⟨I,q,j,w⟩:=pC h.pg;have D:Lx n=q.us:=by unfold Lx;rw[w];rfl
   rw[e]at j w;have d:=h.fu;rw[e,j,aca]at d;have E:q∈n.pg:=by rw[e,j];simp
   have H:=h.us q E;rw[D,B]at lt;have f:=h.cl;unfold iu at f;rw[e]at f;refine⟨λx m=>?_,?_,λx m=>?_,λx m=>?_⟩
   ·rcases aak.mp m with m|m
    ·exact h.go x (by rw[e];exact m)
    ·cases aam.mp m;rfl
   ·rw[aaU,f];simp
   ·rcases aak.mp m with m|m
    ·exact h.us x (by rw[e];exact m)
    ·cases aam.mp m;decide
   ·rw[j]at m;rcases aak.mp m with m|m
    ·exact d x m
    ·cases aam.mp m;omega
 obtain⟨go,f,l,d⟩:=C;unfold R6;cases b with
 | false=>
   rw[aab (by decide),aab (by decide)];refine⟨by simp,go,f,h.gv,h.nd,λc m=>by have:=h.tk c m;show c.tk<=n.tks+1;omega,h.kd,h.vl,l,?_,h.mo,h.ro,h.he,h.to,h.giv,λt e=>?_⟩
   ·show∀q∈(r++[p]).dropLast,_;rw[aca];exact d
   ·cases(show some L=some t from e);exact Int.le_refl _
 | true=>
   rw[aac rfl,aac rfl];have app:∀{Q:Cl->Prop},(∀c∈A,Q c)->Q (K5 nm fs L M n)->∀c∈A++[K5 nm fs L M n],Q c:=λi o c m=>by
    rcases aak.mp m with m|m
    ·exact i c m
    ·cases aam.mp m;exact o
   have g:∀{Q:Pg->Prop},(∀q∈r++[p],Q q)->(Q p->Q {p with cs:=p.cs++[K5 nm fs L M n],us:=p.us+(1+(fs.length:Int))})->∀q∈r++[({p with cs:=p.cs++[K5 nm fs L M n],us:=p.us+(1+(fs.length:Int))}:Pg)],Q q:=λi o c m=>by
    rcases aak.mp m with m|m
    ·exact i c (aaY _ m)
    ·cases aam.mp m;exact o (i p (by simp))
   refine⟨by simp[xf],g go id,?_,app h.gv rfl,?_,app (λc m=>by have:=h.tk c m;show c.tk<=n.tks+1;omega) (Int.le_refl _),app h.kd F,app h.vl G,g l (λu=>by simp only[aas,aav,aa6];omega),?_,h.mo,h.ro,h.he,h.to,?_,λt e=>?_⟩
   ·show(r++[_]).flatMap _=_;rw[aaU,<-f,aaU];simp[K5]
   ·rw[aaw];refine aa9.mpr ⟨h.nd,by simp,λa y b v z=>?_⟩;obtain⟨c,m,rfl⟩:=aap.mp y;have v:b=n.tks+1:=by simpa[K5,gh]using v
    have:=h.tk c m;omega
   ·unfold xf;dsimp only;rw[aca];exact d
   ·show n.giv+1=_;rw[h.giv,aas];simp
   ·cases(show some L=some t from e);exact Int.le_refl _
theorem uP:∀a:List Int,gn K H (a.map V.int) (a.map PyData.int)
 |[]=>.nil
 |u::r=>.cons (.int u) (uP r)
theorem xP:∀a:List Int,gA (a.map PyData.int)=0
 |[]=>rfl
 |u::r=>by simp only[aat,gA,gU];rw[xP r];rfl
theorem yC:∀a:List Int,i_ (a.map PyData.int)=0
 |[]=>rfl
 |u::r=>by simp only[aat,i_,jO];rw[yC r];rfl
noncomputable def Ff(q:Int×Cl):PyData:=.tuple [.str "event",.int q.1,.int q.2.tm,.str q.2.nm,.tuple (q.2.vs.map .int)]
def nQ.rep(h:nQ H x q):Rep K H x (Ff q):=by obtain⟨b,t,rfl,a,c⟩:=h;exact .tup (gf.of a) (.cons (.str _) (.cons (.int _) (.cons (.int _) (.cons (.str _) (.cons (.tup (gf.of c) (uP _)) .nil)))))
theorem nH:∀{a:List V}{b:List (Int×Cl)},Pd (nQ H) a b->gn K H a (b.map Ff)
 |_,_,.nil=>.nil
 |_,_,.cons r t=>.cons r.rep (nH t)
theorem vM:∀{b:List V}{a:List (Int×Cl)},Pd (oV H) b (evs a)->Pd (nQ H) b a
 |_,[],h=>by cases h;exact .nil
 | _,e::a,h=>by
   cases h with
   |cons r t=>exact .cons r (vM t)
def Pz(q:Int×Cl):gU (Ff q)<=3:=by simp only[Ff,gU,gA];rw[xP];decide
def O9(h:q.2.vs.length<=60):jO (Ff q)<=60:=by simp only[Ff,jO,i_,aad];rw[yC];simp only[aav,aa6];omega
theorem vB:∀a:List (Int×Cl),gA (a.map Ff)<=3
 |[]=>by simp[gA]
 | e::r=>by have b:=Pz e;have c:=vB r;simp only[aat,gA];omega
theorem Bk:∀a:List (Int×Cl),(∀e∈a,e.2.vs.length<=60)->i_ (a.map Ff)<=60
 |[],_=>by simp[i_]
 | e::r,h=>by have b:=O9 (h e (aal ..));have c:=Bk r λx m=>h x (aah _ m);simp only[aat,i_];omega
theorem Bw:∀{q:Int}{a:List Cl}{e:Int×Cl},e∈idx q a->e.2∈a
 |_,[],_,h=>by cases h
 | q,c::r,e,h=>by
   rw[idx]at h;rcases aai.mp h with rfl|h
   ·exact aal ..
   ·exact aah _ (Bw h)
noncomputable def Mt(u:HO):Prop:=(∃b,u=.lst b)\/∃a,u=.dK a
structure Tu(K:Zs)(H H':Hp):Prop where
 tk:TK H H'
 sq:∀a xs,gf K H a xs->gf K H' a xs
section
variable{Z:LC}{C S R:Zl}{K:Zs}{H0 H H' H'':Hp}{p dc b:Zl}{r:pU}{d d':Sd}{n:Nat}{M:List (Addr×HO)}{u:HO}
def Tu.trans(a:Tu K H H')(c:Tu K H' H''):Tu K H H'':=⟨a.tk.trans c.tk,λq e h=>c.sq q e (a.sq q e h)⟩
def Tu.by(k:∀b u,H b=some u->((∃xs,u=.tup xs)\/∃o xs,u=.frz o (.tup xs))->H' b=some u):Tu K H H':=
 ⟨λb xs e=>k b _ e (.inl ⟨_,rfl⟩),λa xs h=>by
  rcases h with(h|⟨o,h⟩)|h
  ·exact .inl (.inl (k a _ h (.inl ⟨_,rfl⟩)))
  ·exact .inl (.inr ⟨o,k a _ h (.inr ⟨_,_,rfl⟩)⟩)
  ·exact .inr h⟩
def Tu.same(s:di H H'):Tu K H H':=.by λb u e _=>s b u e
def Tu.but(e:H b=some u)(m:Mt u)(B:ii b H H'):Tu K H H':=.by λc v h t=>B c v h λz=>by subst z;rw [e]at h;cases h;rcases m with ⟨_,rfl⟩|⟨_,rfl⟩<;>rcases t with ⟨_,t⟩|⟨_,_,t⟩<;>cases t
def Tu.rep(t:Tu K H H')(h:Rep K H x e)(a:TD e):Rep K H' x e:=m7 t.sq h (Cv a)
def ii.upd:ii b H (upd H b o):=λc v e n=>by rw[c7 n];exact e
def RcAt.but(h:RcAt Z C S R K H r d n)(j:b≠r.a)(o:b≠r.pa)(q:b≠r.un)(w:b∉r.s.all)(e:H b=some u)(m:Mt u)(B:ii b H H'):RcAt Z C S R K H' r d n:=by
 obtain⟨a,f⟩:=h.ob;obtain⟨g,i,l⟩:=h.ps;refine⟨⟨a,B _ _ f j.symm⟩,⟨g,B _ _ i o.symm,l⟩,B _ _ h.un q.symm,h.st.keep λc v h s=>B c v h λz=>?_,h.ne⟩;subst z;rw[e]at h;cases h;rcases s with s|⟨_,s⟩|⟨_,_,s⟩|⟨_,_,s⟩
 ·exact w s
 all_goals(rcases m with⟨_,rfl⟩|⟨_,rfl⟩<;>cases s)
structure Ws(Z:LC)(C S R:Zl)(K:Zs)(H0 H:Hp)(p dc:Zl)(r:pU)(d:Sd)(n:Nat)(M:List (Addr×HO)):Prop where
 rc:Rz Z C S R K H r d n
 dr:Dr H p dc
 old:∀b u,H0 b=some u->b≠p->H b=some u
 zr:H0 r.a=none/\H0 r.pa=none/\H0 r.un=none
 hp:∃u,H0 p=some u
 hd:∃u,H0 dc=some u
 ev:∀q∈M,H q.1=some q.2/\Mt q.2/\H0 q.1=none/\q.1≠r.a/\q.1≠r.pa/\q.1≠r.un
 fr:∀b∈p::M.map (·.1),b∉r.s.all
 nd:(M.map (·.1)).Nodup
def Ws.pne(h:Ws Z C S R K H0 H p dc r d n M):p≠r.a/\p≠r.pa/\p≠r.un:=by obtain⟨u,e⟩:=h.hp;exact⟨dg e h.zr.1,dg e h.zr.2.1,dg e h.zr.2.2⟩
def Ws.same(h:Ws Z C S R K H0 H p dc r d n M)(s:di H H'):Ws Z C S R K H0 H' p dc r d n M:=
 ⟨⟨h.rc.at_.same s,h.rc.nl,h.rc.ok⟩,h.dr.mono s,λb u e n=>s _ _ (h.old b u e n),h.zr,h.hp,h.hd,λq m=>⟨s _ _ (h.ev q m).1,(h.ev q m).2⟩,h.fr,h.nd⟩
def Ws.but(h:Ws Z C S R K H0 H p dc r d n M)(B:ii p H H')(D:Dr H' p dc):Ws Z C S R K H0 H' p dc r d n M:=by obtain⟨a,e⟩:=h.dr.dk;obtain⟨u,c⟩:=h.hp;exact⟨⟨h.rc.at_.but h.pne.1 h.pne.2.1 h.pne.2.2 (h.fr p (aal ..)) e (.inr ⟨_,rfl⟩) B,h.rc.nl,h.rc.ok⟩,D,λb u e n=>B _ _ (h.old b u e n) n,h.zr,h.hp,h.hd,λq m=>⟨B _ _ (h.ev q m).1 (dg c (h.ev q m).2.2.1).symm,(h.ev q m).2⟩,h.fr,h.nd⟩
def Ws.upd(h:Ws Z C S R K H0 H p dc r d n M)(m:M[i]?=some (b,u))(L:Mt o):Ws Z C S R K H0 (upd H b o) p dc r d n (M.set i (b,o))/\Tu K H (upd H b o):=by
 have g:=aaj m;obtain ⟨e,s,z,A,D,E⟩:=h.ev _ g;have B:ii b H (L2.upd H b o):=ii.upd;obtain ⟨x,I⟩:=h.hp;obtain ⟨y,J⟩:=h.hd;have l:(M.set i (b,o)).map (·.1)=M.map (·.1):=eY (s':=(b,o)) (·.1) m rfl;refine ⟨⟨⟨h.rc.at_.but A D E (h.fr b (aah _ (aap.mpr ⟨_,g,rfl⟩))) e s B,h.rc.nl,h.rc.ok⟩,h.dr.put (dg I z).symm (dg J z).symm,λc v e n=>B _ _ (h.old c v e n) (dg e z),h.zr,h.hp,h.hd,λq F=>?_,by rw [l];exact h.fr,by rw [l];exact h.nd⟩,Tu.but e s B⟩;obtain ⟨j,a⟩:=aax.mp F;rw [abk]at a;by_cases f:i=j
 ·rw [aac f]at a;split at a
  ·cases a;exact ⟨a_,L,z,A,D,E⟩
  ·cases a
 ·rw [aab f]at a;have:=h.ev q (aaj a);refine ⟨B _ _ this.1 λw=>f ?_,this.2⟩;have G:=(aar.mp m).1;exact (ab8 (by rw [aad];exact G) h.nd).mp (by rw [aao,aao,m,a];simp [w])
theorem Ws.fresh(h:Ws Z C S R K H0 H p dc r d n M)(e:H b=none):H0 b=none:=by
 cases z:H0 b with
 |none=>rfl
 | some u=>
   by_cases q:b=p
   ·obtain⟨a,c⟩:=h.dr.dk;rw[q,c]at e;cases e
   ·rw[h.old b u z q]at e;cases e
def Ws.new(h:Ws Z C S R K H0 H p dc r d n M)(e:H b=none)(m:Mt o):Ws Z C S R K H0 (L2.upd H b o) p dc r d n (M++[(b,o)]):=by
 obtain⟨v,l⟩:=h.rc.at_.ob;obtain⟨w,s,_⟩:=h.rc.at_.ps;have W:=h.same (di.new (o:=o) e);have i:∀{c u},H c=some u->b≠c:=λq=>(dg q e).symm;refine⟨W.rc,W.dr,W.old,W.zr,W.hp,W.hd,λq g=>?_,λc f=>?_,?_⟩
 ·rcases aak.mp g with g|g
  ·exact W.ev q g
  ·cases aam.mp g;exact⟨a_,m,h.fresh e,i l,i s,i h.rc.at_.un⟩
 ·rw[aaw]at f;rcases aai.mp f with rfl|f
  ·exact h.fr _ (aal ..)
  ·rcases aak.mp f with f|f
   ·exact h.fr c (aah _ f)
   ·have:c=b:=by simpa using f
    subst this;intro z;rcases h.rc.at_.st.here z with⟨_,_,_,q⟩|⟨_,q⟩|⟨_,q,_⟩<;>exact i q rfl
 ·rw[aaw];refine aa9.mpr ⟨h.nd,by simp,λa j c f z=>?_⟩;obtain⟨q,g,rfl⟩:=aap.mp j;have:c=b:=by simpa using f
  exact i (h.ev q g).1 (this.symm.trans z.symm)
def Ws.rcn(h:Ws Z C S R K H0 H p dc r d n M)(k:Jo Z C S R K r n H d' H')(nl:n+1<=900)(ok:yj d'):∃a,a.a=r.a/\Ws Z C S R K H0 H' p dc a d' (n+1) M/\Tu K H H':=by
 obtain ⟨a,f,i,j,A,kk,l⟩:=k;obtain ⟨x,O⟩:=h.hp;obtain ⟨y,g⟩:=h.hd;obtain ⟨P,B⟩:=h.rc.at_.ob;obtain ⟨Q,D,_⟩:=h.rc.at_.ps;have k0:∀b u,H0 b=some u->b≠p->H' b=some u:=λb u e n=>kk _ _ (h.old b u e n) (dg e h.zr.1) (dg e h.zr.2.1) (dg e h.zr.2.2);refine ⟨a,f,⟨⟨A,nl,ok⟩,?_,k0,by rw [f,i,j];exact h.zr,h.hp,h.hd,λq m=>?_,λb m=>?_,h.nd⟩,.by λc v e t=>kk _ _ e ?_ ?_ ?_⟩
 ·obtain ⟨E,ba,F,bs,G,I,rest⟩:=h.dr.ex;exact ⟨E,ba,F,bs,kk _ _ G h.pne.1 h.pne.2.1 h.pne.2.2,kk _ _ I (dg g h.zr.1) (dg g h.zr.2.1) (dg g h.zr.2.2),rest⟩
 ·obtain ⟨e,J,z,o,s,w⟩:=h.ev q m;exact ⟨kk _ _ e o s w,J,z,by rw [f];exact o,by rw [i];exact s,by rw [j];exact w⟩
 ·rcases aai.mp m with rfl|m
  ·obtain ⟨L,e⟩:=h.dr.dk;exact l _ _ e
  ·obtain ⟨q,N,rfl⟩:=aap.mp m;exact l _ _ (h.ev q N).1
 all_goals (intro z;subst z)
 ·rw [B]at e;cases e;rcases t with ⟨_,t⟩|⟨_,_,t⟩<;>cases t
 ·rw [D]at e;cases e;rcases t with ⟨_,t⟩|⟨_,_,t⟩<;>cases t
 ·rw [h.rc.at_.un]at e;cases e;rcases t with ⟨_,t⟩|⟨_,_,t⟩<;>cases t
end
structure Lw where
 nm:Str
 ln:Ln
 ck:Int
 ts:PyData
 x:V
 a:Addr
 ys:List V
 A:List Cl
noncomputable def Jp(L:List Lw):HO:=.dK (L.map λl=>(kk l.nm,l.x))
noncomputable def Vk(L:List Lw):HO:=.dK (L.map λl=>(kk l.nm,.ref l.a))
noncomputable def Mo(a b:Zl)(L:List Lw):List (Addr×HO):=(a,Jp L)::(b,Vk L)::L.map λl=>(l.a,.lst l.ys)
noncomputable def Do(a:List (Str×List ji))(L:List Lw):Sd:=⟨16,12,a,L.map λl=>(l.nm,⟨l.ln,l.ck,l.ts⟩),false,.none⟩
structure Lf(K:Zs)(H:Hp)(l:Lw):Prop where
 rx:Rep K H l.x l.ts
 tr:Tr 5 l.ts
 te:jx l.ts=true
 ev:Pd (nQ H) l.ys (idx 0 l.A)
 gv:Gv l.A l.ln l.ck
section
variable{K:Zs}{H H':Hp}{L:List Lw}{l l':Lw}{i:Nat}{td rd:Zl}{kts:List (Str×List ji)}
def Lf.tu(h:Lf K H l)(t:Tu K H H'):Lf K H' l:=⟨t.rep h.rx h.tr.td,h.tr,h.te,h.ev.map λ_ _ e=>e.tk t.tk,h.gv⟩
theorem o6{f:Lw->V}:∀{L:List Lw}{i:Nat}{l:Lw},(L.map (·.nm)).Nodup->L[i]?=some l->jq (L.map λl=>(kk l.nm,f l)) (kk l.nm)=some (f l)
 |[],_,_,_,h=>by simp at h
 |q::L,0,l,_,h=>by simp at h;subst h;exact nO rfl
 | q::L,i+1,l,n,h=>by
   have a:=aaD.mp n;have b:L[i]?=some l:=by simpa using h
   have ne:¬q.nm=l.nm:=λe=>a.1 (by show q.nm∈_;rw[e];exact aap.mpr ⟨l,aaj b,rfl⟩);rw[aat,mD (λe=>ne (abt e))];exact o6 a.2 b
def Jx{f:Lw->V}(n:(L.map (·.nm)).Nodup)(h:L[i]?=some l)(e:l'.nm=l.nm):putK (L.map λl=>(kk l.nm,f l)) (kk l.nm) (f l')=(L.set i l').map λl=>(kk l.nm,f l):=by
 unfold putK;rw[aac (abG.mpr ⟨_,aap.mpr ⟨l,aaj h,rfl⟩,by simp⟩),aby];refine List.ext_getElem? λj=>?_;rw[aao,aao,abk];by_cases a:i=j
 ·subst a;rw[aac rfl,aac (aar.mp h).1,h];simp[e]
 ·rw[aab a];cases hj:L[j]? with
  |none=>rfl
  | some q=>have:¬q.nm=l.nm:=λz=>a ((ab8 (by rw[aad];exact(aar.mp h).1) n).mp (by rw[aao,aao,h,hj];simp[z]));simp only[Option.map_some,Function.comp];rw[aab (show¬kk q.nm=kk l.nm fromλz=>this (abt z))]
def Do.at(h:L[i]?=some l):(Do kts L).tr[i]?=some (l.nm,⟨l.ln,l.ck,l.ts⟩):=by show(L.map _)[i]?=_;rw[aao,h];rfl
def Do.set(a:Lw):({Do kts L with tr:=(Do kts L).tr.set i (a.nm,⟨a.ln,a.ck,a.ts⟩)}:Sd)=Do kts (L.set i a):=by unfold Do;rw[abA]
def Do.ok(b:L.length<=6)(h:∀l∈L,zy l.ln/\l.ln.pg.length<=900/\(iu l.ln).length<=900):yj (Do kts L):=by
 refine⟨⟨by show(2:Int)<=16;decide,by show(16:Int)<=16;decide,by show(5:Int)<=12;decide,by show(12:Int)<=12;decide,by show(L.map _).length<=6;rw[aad];exact b,λp m=>?_⟩,λp m=>?_⟩
 all_goals(obtain⟨l,a,rfl⟩:=aap.mp m)
 ·exact⟨(h l a).1,(h l a).2.1⟩
 ·exact(h l a).2.2
def Mo.ts(h:L[i]?=some l)(a:l'.a=l.a)(b:l'.ys=l.ys)(c:l'.nm=l.nm):(Mo td rd L).set 0 (td,Jp (L.set i l'))=Mo td rd (L.set i l'):=by unfold Mo;rw[abB];unfold Vk;rw[eY (λl:Lw=>(kk l.nm,V.ref l.a)) h (by rw[c,a]),eY (λl:Lw=>(l.a,HO.lst l.ys)) h (by rw[a,b])]
def Mo.ys(h:L[i]?=some l)(a:l'.a=l.a)(c:l'.x=l.x)(b:l'.nm=l.nm):(Mo td rd L).set (i+2) (l.a,.lst l'.ys)=Mo td rd (L.set i l'):=by unfold Mo;rw[abz,abz];unfold Vk Jp;rw[eY (λl:Lw=>(kk l.nm,V.ref l.a)) h (by rw[b,a]),eY (λl:Lw=>(kk l.nm,l.x)) h (by rw[b,c]),abA,a]
def Mo.same(h:L[i]?=some l)(a:l'.a=l.a)(c:l'.x=l.x)(b:l'.nm=l.nm)(d:l'.ys=l.ys):Mo td rd (L.set i l')=Mo td rd L:=by unfold Mo Vk Jp;rw[eY (λl:Lw=>(kk l.nm,V.ref l.a)) h (by rw[b,a]),eY (λl:Lw=>(kk l.nm,l.x)) h (by rw[b,c]),eY (λl:Lw=>(l.a,HO.lst l.ys)) h (by rw[a,d])]
end
theorem Ir(i:TD d):jO d<=21:=by
 induction i with
 |str a b=>simp[jO]
 |int a b=>simp[jO]
 |nil=>simp[jO,i_]
 | @node f r a b c tr g=>
   have:∀l:List PyData,(∀d∈l,d∈r)->i_ l<=21:=by
    intro l;induction l with
    |nil=>intro _;simp[i_]
    | cons d l e=>intro h;have j:=g d (h d (aal ..));have n:=e λd m=>h d (aah _ m);simp only[i_];omega
   have h:=this r λ_ m=>m;simp only[jO,i_,aav];omega
theorem Ja{a:Type}:∀{l:List a},l.length=2->∃u v,l=[u,v]
 |[u,v],_=>⟨u,v,rfl⟩
def BR(e:St->Hp->Prop)(h:∀a H,e a H->D.nx a H)(c:∀b:Ends,(∀a H,e a H->b.nx a H)->KY d t u b a H):KY d t u D a H:=c D h
structure Li(Z:LC)(C S R:Zl)(K:Zs)(H0 H:Hp)(p dc td rd:Zl)(kts:List (Str×List ji))(l1 l2:Str)(r:pU)(L:List Lw)(n i:Nat):Prop where
 w:Ws Z C S R K H0 H p dc r (Do kts L) n (Mo td rd L)
 nm:L.map (·.nm)=[l1,l2]
 lf:∀l∈L,Lf K H l
 al:∀l∈L,l.A.length<=i
section
variable{Z:LC}{C S R:Zl}{K:Zs}{H0 H H':Hp}{p dc td rd:Zl}{kts:List (Str×List ji)}{l1 l2:Str}{r r':pU}{L:List Lw}{l l':Lw}{n n' i i' j:Nat}
def Li.same(h:Li Z C S R K H0 H p dc td rd kts l1 l2 r L n i)(s:di H H'):Li Z C S R K H0 H' p dc td rd kts l1 l2 r L n i:=⟨h.w.same s,h.nm,λl m=>(h.lf l m).tu (.same s),h.al⟩
def Li.but(h:Li Z C S R K H0 H p dc td rd kts l1 l2 r L n i)(B:ii p H H')(D:Dr H' p dc):Li Z C S R K H0 H' p dc td rd kts l1 l2 r L n i:=by obtain⟨a,e⟩:=h.w.dr.dk;exact⟨h.w.but B D,h.nm,λl m=>(h.lf l m).tu (.but e (.inr ⟨_,rfl⟩) B),h.al⟩
def Li.step(h:Li Z C S R K H0 H p dc td rd kts l1 l2 r L n i)(b:L[j]?=some l)(W:Ws Z C S R K H0 H' p dc r' (Do kts (L.set j l')) n' (Mo td rd (L.set j l')))(t:Tu K H H')(f:Lf K H' l')(e:l'.nm=l.nm)(a:l'.A.length<=i')(c:i<=i'):Li Z C S R K H0 H' p dc td rd kts l1 l2 r' (L.set j l') n' i':=by
 refine⟨W,by rw[eY (·.nm) b e];exact h.nm,λq m=>?_,λq m=>?_⟩
 all_goals rcases abf m with m|rfl
 ·exact(h.lf q m).tu t
 ·exact f
 ·exact aag (h.al q m) c
 ·exact a
def Li.nd(h:Li Z C S R K H0 H p dc td rd kts l1 l2 r L n i)(ne:l1≠l2):(L.map (·.nm)).Nodup:=by rw[h.nm];simp[ne]
def Li.len(h:Li Z C S R K H0 H p dc td rd kts l1 l2 r L n i):L.length=2:=by have:=aaB List.length h.nm;simpa using this
def Li.gt(h:Li Z C S R K H0 H p dc td rd kts l1 l2 r L n i)(ne:l1≠l2)(a:L[j]?=some l):j8 H td (.str l.nm) (some l.x)/\j8 H rd (.str l.nm) (some (.ref l.a))/\H l.a=some (.lst l.ys):=by have d:(td,Jp L)∈Mo td rd L:=aal ..;have e:(rd,Vk L)∈Mo td rd L:=aah _ (aal ..);have b:=j8.k (k:=kk l.nm) (h.w.ev _ d).1;have c:=j8.k (k:=kk l.nm) (h.w.ev _ e).1;rw[o6 (f:=λl=>l.x) (h.nd ne) a]at b;rw[o6 (f:=λl=>V.ref l.a) (h.nd ne) a]at c;exact⟨b,c,(h.w.ev (l.a,.lst l.ys) (aah _ (aah _ (aap.mpr ⟨l,aaj a,rfl⟩)))).1⟩
def Do.oks(f:∀l∈L,Lf K H l)(a:∀l∈L,l.A.length<=i)(e:L.length=2)(c:i<=40)(g:Gv l'.A l'.ln l'.ck)(b:l'.A.length<=40):yj (Do kts (L.set j l')):=Do.ok (by rw[acY,e];decide) λq m=>by
 have:zy q.ln/\q.ln.pg.length<=900/\(iu q.ln).length<=900/\(Cm.stand q.ln).length<=900:=by
  rcases abf m with m|rfl
  ·exact(f q m).gv.lno (aag (a q m) c)
  ·exact g.lno b
 exact⟨this.1,this.2.1,this.2.2.1⟩
def wM(h:H a=none):di H (upd H a o)/\upd H a o a=some o:=⟨di.new h,a_⟩
end
noncomputable abbrev T_:List Str:=["_law_script","_law_d","_law_c","_law_rec","_law_lane","_law_other","_law_some","_law_title","_law_fields","_law_tests","_law_rows","_law_turn","_law_values","_law_due","_law_given"]
def jQ:du T_ ["_law_script"] (b_ (top 130)):=by ext
noncomputable def Zb:List V->List V->List V
 |[x],[a,b]=>[x,a,b]
 |_,_=>[]
noncomputable def gR:List Value->List Value->List Value
 |[x],[a,b]=>[x,a,b]
 |_,_=>[]
noncomputable def Zi:List V->List V->List V
 |[x,a],[b]=>[x,a,b]
 |_,_=>[]
noncomputable def gO:List Value->List Value->List Value
 |[x,a],[b]=>[x,a,b]
 |_,_=>[]
def PB{x y:V}{a:List V}:qF (x::y::a) 1=some y:=by unfold qF KH;simp;rw[aac (by omega)];rfl
section
variable{P:ZE}{w:ZH}{K:Zs}{mg:Y1}{base:ZN}{Z:LC}{C S R:Zl}
inductive Iu(K:Zs)(vs:List V)(H:Hp)(Q:VK)(E:XK):Prop
 |mk (a:Zl) (ns:List Int):vs=[.ref a]->fj K H a (ns.map V.int)->ns.length<=63->(∀H',Q (.bl true) H')->Iu K vs H Q E
structure KZ(K:Zs)(C:Zl)(m:Str)(ps:Y2)(f:Zl)(fd:ZB):Prop where
 M:Meth K C m f
 b:Binds K fd ps []
def Rg{f fB fP fO fS c8 da fN fY db dd de df dg dj dk dl dn dq ds:Zl}{fd dt du dv dy an ar dz dA bk bt cd ci cs cX cY c0 c1 c2 c3:ZB}
 (F:ir K "law" "law" (top 130) f fd)(T:Txt K mg)(c6:mg "sum"=none)(RZ:RZ K mg R)
 (DB:gq K mg "_law_begin" (top 112) ["_law_script"] fB dt)(DP:gq K mg "_law_pick" (top 113) ["_law_d","_law_many"] fP du)(DO:gq K mg "_law_of" (top 114) ["_law_d","_law_things"] fO dv)(DS:gq K mg "_law_same" (top 115) ["_law_found","_law_due"] fS dy)
 (dS:gq K mg "_law_cast" (top 128) ["_law_d"] c8 an)(dT:dm P w K mg base dU 6 c8 an ["_law_d"] zX)
 (dV:gq K mg "_law_cast_test" (top 129) ["_law_d","_law_c"] da ar)(dW:dm P w K mg base dU 11 da ar ["_law_d","_law_c"] (HR K))
 (DN:gq K mg "_law_near_values" (top 125) Wj fN dz)(GN:dm P w K mg base dU 8 fN dz Wj (Hi K))
 (DY:gq K mg "_law_passes" (top 124) Ry fY dA)
 (dY:Mk K R db)(d0:dm P w K mg base dU 4 db bk ["self","pages","room"] (Qy Z C S R K))(d3:k_ K bk ["self","pages","room"] ["pages","room"] gR Zb)
 (d4:Meth K R "lane" dd)(d5:dm P w K mg base dU 15 dd bt ["self","name","over"] (wO Z C S R K))(d6:k_ K bt ["self","name","over"] ["over"] gO Zi)
 (dB:KZ K R "kind" ["self","name","fields"] de cd)(d7:dm P w K mg base dU 15 de cd ["self","name","fields"] (wB Z C S R K))
 (dE:KZ K R "tick" ["self","lane","steps"] df ci)(d9:dm P w K mg base dU 15 df ci ["self","lane","steps"] (wW Z C S R K))
 (dF:KZ K R "sieve" ["self","lane","test"] dg cs)(eb:dm P w K mg base dU 15 dg cs ["self","lane","test"] (sH Z C S R K))
 (dG:KZ K R "write" ["self","lane","kind","values"] dj cX)(ee:dm P w K mg base dU 15 dj cX ["self","lane","kind","values"] (tV Z C S R K))
 (dH:KZ K R "now" ["self","lane"] dk cY)(eh:dm P w K mg base dU 2 dk cY ["self","lane"] (zM Z C S R K))
 (c4:KZ K R "test_of" ["self","lane"] dl c0)(dL:dm P w K mg base dU 2 dl c0 ["self","lane"] (ql Z C S R K))
 (c5:KZ K R "look" ["self","lane"] dn c1)(dP:dm P w K mg base dU 4 dn c1 ["self","lane"] (wH Z C S R K))
 (dQ:KZ K R "counts" ["self","lane"] dq c2)(ei:dm P w K mg base dU 2 dq c2 ["self","lane"] (R0 Z C S R K))
 (c7:KZ K R "__len__" ["self"] ds c3)(ej:dm P w K mg base dU 5 ds c3 ["self"] (Rt Z C S R K)):
 dm P w K mg base dU 17 f fd ["_law_script"] (Iu K):=by
 have GB:dm P w K mg base dU 1 fB dt ["_law_script"] (vZ K):=J7 DB.F T;have GP:dm P w K mg base dU 1 fP du ["_law_d","_law_many"] jK:=jH DP.F T;have GO:dm P w K mg base dU 2 fO dv ["_law_d","_law_things"] (xr K):=vq DO.F T DP;have GS:dm P w K mg base dU 8 fS dy ["_law_found","_law_due"] (spS K 8):=Mr DS T 8;have GY:dm P w K mg base dU 5 fY dA Ry (K1 K 5):=UG DY T 5;refine F.ok jQ (by ext) λac A bY s H vs Q E hr h=>?_;obtain⟨sa,ns,rfl,hS,bQ,k⟩:=h;have hu:=pO hr;have aN:eZ 1 _:=hr.mono (by decide);have aj:eZ 2 _:=hr.mono (by decide);have bp:eZ 4 _:=hr.mono (by decide);have bq:eZ 5 _:=hr.mono (by decide);have bu:eZ 6 _:=hr.mono (by decide);have aO:eZ 8 _:=hr.mono (by decide);have bw:eZ 11 _:=hr.mono (by decide);have ae:eZ 15 _:=hr.mono (by decide);refine⟨_,(bK (jj 1 jQ.nd (iJ DB GB aN (aK (pv 0) cZ))) (bK (jj 2 jQ.nd (iJ dS dT bu (aK (pv 1) cZ))) (bK (jj 3 jQ.nd (qj (E:=E0) dY d0 bq rfl RZ.mg d3 dR (jZ dh (jZ dh wI)))) (bK (Px (i:=4) (j:=5) rfl jQ.nd rfl rfl (by decide) rfl rfl (aK (dZ g_ (fQ hu (pv 2) dC) dh) (aK (dZ g_ (fQ hu (pv 2) dC) dh) cZ)) rfl) (bK (j6 aaO rfl (kY (gw (aK (pv 4) (aK (pv 5) cZ)))) (jP 6 jQ.nd) (d8 (fc (Gd (E:=E0) (pv 3) RZ.c d4 d5 ae d6 dR (aK (pv 6) cZ) (jZ lD wI))))) (bK (j6 aaO rfl (h_ (fQ hu (pv 2) dC)) (iy rfl (dJ (jP 7 jQ.nd) (dJ (jP 8 jQ.nd) gP))) (d8 (fc (eO (E:=E0) (pv 3) RZ.c dB.M d7 ae dB.b .nil dR (aK (pv 7) (aK (pv 8) cZ)))))) (bK (jj 9 jQ.nd (qR (jD (pv 4) (gw (aK dC cZ)) (jD (pv 5) (gw (aK dC cZ)) qN)) rfl rfl (ab4 _ _) (by show 2<=15;decide))) (bK (jj 10 jQ.nd (qR (jD (pv 4) (gC cZ) (jD (pv 5) (gC cZ) qN)) rfl rfl (ab4 _ _) (by show 2<=15;decide))) (bK (j6 aaO rfl (kI rfl T.range (aK (fX iI dh (iJ DP GP aN (aK (pv 1) (aK dh cZ)))) cZ)) (jP 11 jQ.nd) (bK (jj 6 jQ.nd (iJ DO GO aj (aK (pv 1) (aK (gC (aK (pv 4) (aK (pv 4) (aK (pv 5) cZ)))) cZ)))) (bK (eX (dM gG (iJ DP GP aN (aK (pv 1) (aK dh cZ))) dh (dN _)) (bK (jo hu (pv 9) (pv 6) (iJ dV dW bw (aK (pv 1) (aK (pv 2) cZ))) rfl) (d8 (fc (eO (E:=E0) (pv 3) RZ.c dF.M eb ae dF.b .nil dR (aK (pv 6) (aK (fQ hu (pv 9) (pv 6)) cZ)))))) dI) (bK (fc (eO (E:=E0) (pv 3) RZ.c dE.M d9 ae dE.b .nil dR (aK (pv 6) (aK (iJ DP GP aN (aK (pv 1) (aK dh cZ))) cZ)))) (bK (lY (iJ DO GO aj (aK (pv 1) (aK (fQ hu (pv 2) dC) cZ))) (iy rfl (dJ (jP 7 jQ.nd) (dJ (jP 8 jQ.nd) gP)))) (bK (jj 12 jQ.nd (iJ DN GN aO (aK (pv 1) (aK (fQ hu (pv 9) (pv 6)) (aK (pv 8) cZ))))) (bK (jj 13 jQ.nd (iJ DY GY bq (aK (fQ hu (pv 9) (pv 6)) (aK (pv 7) (aK (pv 8) (aK (pv 12) cZ)))))) (bK (eX (iT (pv 13)) (d8 (fc (lE aaZ aa3 aa8 j4 (fQ hu (pv 10) (pv 6)) (aK (gw (aK dC (aK (dD dO (by rfl) T.len gD (aK (fQ hu (pv 10) (pv 6)) cZ)) (aK (eO (E:=E0) (pv 3) RZ.c dH.M eh aj dH.b .nil dR (aK (pv 6) cZ)) (aK (pv 7) (aK (pv 12) cZ)))))) cZ)))) dI) (bK (eX (jm (iT (iJ DS GS aO (aK (eO (E:=E0) (pv 3) RZ.c dG.M ee ae dG.b .nil dR (aK (pv 6) (aK (pv 7) (aK (pv 12) cZ)))) (aK (pv 13) cZ))))) (d8 gj) dI) (bK (eX (jm (iT (iJ DS GS aO (aK (gC (aK (eO (E:=E0) (pv 3) RZ.c c5.M dP bp c5.b .nil dR (aK (pv 4) cZ)) (aK (eO (E:=E0) (pv 3) RZ.c c5.M dP bp c5.b .nil dR (aK (pv 5) cZ)) cZ))) (aK (gC (aK (fQ hu (pv 10) (pv 4)) (aK (fQ hu (pv 10) (pv 5)) cZ))) cZ))))) (d8 gj) dI) (d8 (eX (jm (iT (iJ DS GS aO (aK (gC (aK (eO (E:=E0) (pv 3) RZ.c c4.M dL aj c4.b .nil dR (aK (pv 4) cZ)) (aK (eO (E:=E0) (pv 3) RZ.c c4.M dL aj c4.b .nil dR (aK (pv 5) cZ)) cZ))) (aK (gC (aK (fQ hu (pv 9) (pv 4)) (aK (fQ hu (pv 9) (pv 5)) cZ))) cZ))))) (d8 gj) dI)))))))))))) (bK (jL (g:=eN 0) (i:=14) (own:=["_law_some"]) (js:=[3]) (N':=["_law_some","_law_rec"]) (dX.of (osc:=b_ (top 130)) (N:=T_) rfl rfl (by ext)) rfl jQ.nd rfl rfl (kY (gw (aK (pv 4) (aK (pv 5) cZ)))) (λ_ _ _ _ _=>(fZ (i:=0) (show List.Nodup (["_law_some","_law_rec"]:Y2) by ext) rfl (.inl rfl) (.inr rfl))) (λ_ _ _ _ _=>gF) (λ_ _ _ _ _=>dZ (r:=qg K) eU (eO (E:=E0) (pv 1) RZ.c dQ.M ei aj dQ.b .nil dR (aK (pv 0) cZ)) dh)) (d8 (dw (jf (iz (Hy hr.units) (pv 14) (gC (aK (dD dO (by rfl) T.len gD (aK (fQ hu (pv 10) (pv 4)) cZ)) (aK (dD dO (by rfl) T.len gD (aK (fQ hu (pv 10) (pv 5)) cZ)) cZ))) (dN _)) (kJ (iz gG (dD (D_ (E:=E0) ⟨c7.M.at_,c7.M.fn,ej,c7.b,dR⟩ bu) (by rfl) T.len gD (aK (pv 3) cZ)) (dD (p_ rfl) (by rfl) c6 Al (aK (pv 14) cZ)) (dN _)))))))))))))))),?_⟩;refine kh λD9 c9=>⟨_,rfl,sa,ns,rfl,hS,bQ,λp dc Hb D0 s0 cu=>?_⟩;refine c9 _ _ ?_
 try dsimp only[eN,List.set,L2.start]
 refine kh λDA cA=>?_;refine⟨_,rfl,p,dc,rfl,D0,λcc c ws H0 ca co bZ D1 t1=>?_⟩;refine cA _ _ (kh λDB cB=>?_);refineλx dx hx bi cv=>⟨x,dx,16,12,rfl,a_,by decide,by decide,by decide,by decide,λr H4 ra np nu rc k4 ff=>⟨rfl,?_⟩⟩;subst ra;have aP:di H0 (upd (upd H0 dx (.own r.a)) r.a (.ins R dx [])):=gY hx bi (λb u e _=>e);have S4:di H0 H4:=gY hx bi k4;obtain⟨D,G,wr,rfl⟩:∃D G r,ws=D::G::r:=by
  have:=co.wl
  match ws,this with
  |[],h=>simp at h
  |[_],h=>simp at h
  |a::b::r,_=>exact⟨a,b,r,rfl⟩
 have cg:=co.wo D (by simp);have ch:=co.wo G (by simp);have J:D≠G:=λz=>by have:=co.wd;rw[z]at this;simp at this
 have W0:Ws Z C S R K H0 H4 p dc r (O2 16 12) 0 []:=by obtain⟨ms,ba,br,bs,e1,e2,_⟩:=D1.ex;exact⟨⟨rc,aaJ _,Do.ok (kts:=[]) (L:=[]) (aaJ _) (λl m=>by cases m)⟩,D1.mono S4,λb u e _=>S4 _ _ e,⟨hx,e_ aP np,e_ aP nu⟩,⟨_,e1⟩,⟨_,e2⟩,(λq m=>by cases m),λb m=>by cases aam.mp m;exact ff _ _ (aP _ _ e1),abe⟩
 clear k4 rc np nu aP S4 s0 t1 ff;obtain⟨lk,ll,lt,lf,ks,us,e1,e2,cp,e3,e4,ul⟩:=id ca.ex;have ol:∀{H:Hp}{r d n M},Ws Z C S R K H0 H p dc r d n M->H cc=some (.dK (cK lk ll lt lf))/\H lk=some (.lst ks)/\Pd (Nz H) ks c/\H ll=some (.lst ((D::G::wr).map V.str))/\H lf=some (.lst us):=λW=>by have l:∀{q xs},H0 q=some (.lst xs)->_:=λe=>W.old _ _ e (D1.ne e (by intro _ h;cases h));exact⟨W.old _ _ e1 bZ,l e2,cp.map λ_ _ r=>r.tk λb xs e=>W.old _ _ e (D1.ne e (by intro _ h;cases h)),l e3,l e4⟩
 refine cB _ _ ?_
 try dsimp only[eN,List.set]
 refine kh λDC cC=>?_;obtain⟨ec,_,_,el,_⟩:=ol W0;have g1:=(wQ ec).1;refine⟨_,rfl,cc,_,rfl,g1,ll,_,_,_,rfl,rfl,fj.of el,pD,_,rfl,cc,_,rfl,g1,ll,_,_,_,rfl,rfl,fj.of el,PB,_,_,rfl,?_⟩;refine cC _ _ ?_
 try dsimp only[eN,List.set]
 refine kh λDD cD=>?_;generalize a0:([⟨D,m9 16 12 false,0,vP,.non,0,[],[]⟩,⟨G,m9 16 12 false,0,vP,.non,0,[],[]⟩]:List Lw)=L0;have a3:∀l∈L0,zy l.ln/\l.ln.pg.length<=900/\(iu l.ln).length<=900:=λl m=>by
  have:l.ln=m9 16 12 false:=by subst a0;rcases aai.mp m with rfl|m;rfl;cases aam.mp m;rfl
  rw[this];exact⟨(Gv.new.lno (aaJ _)).1,(Gv.new.lno (aaJ _)).2.1,(Gv.new.lno (aaJ _)).2.2.1⟩
 have a4:L0.length=2:=by subst a0;rfl
 refine⟨_,rfl,_,rfl,(by ext),λtp ad=>⟨tp,rfl,⟨_,gf.of a_⟩,?_⟩⟩;obtain⟨n1,aC⟩:=wM (o:=.tup [.str D,.str G]) ad;generalize upd H4 tp (.tup [.str D,.str G])=H5 at n1 aC|-;have W1:=W0.same n1;clear W0 el ec g1;refine iW (xs:=[.str D,.str G]) (λi B H'=>∃(r:pU)(u:Option V),B=[some (.ref sa),some (.ref p),some (.ref cc),some (.ref r.a),some (.str D),some (.str G),u,none,none,none,none,none,none,none,none]/\Ws Z C S R K H0 H' p dc r (Do [] (L0.take i)) i []/\H' tp=some (.tup [.str D,.str G])) ⟨r,none,rfl,W1,aC⟩ (λi B H' _ z=>by obtain⟨_,_,_,_,z⟩:=z;exact gf.of z) ?_ ?_
 ·rintro i x B H1 hx⟨r,u,rfl,W,ht⟩;dsimp only[eN,List.set];refine xx λDE hE=>?_;obtain⟨dr,er⟩:=W.rc.at_.ob;have i2:i<2:=(aar.mp hx).1;obtain⟨nm,rfl,hn,O,cq⟩:∃nm,x=.str nm/\Nm nm/\L0[i]?=some ⟨nm,m9 16 12 false,0,vP,.non,0,[],[]⟩/\∀q∈(Do [] (L0.take i)).tr,q.1≠nm:=by
   subst a0;rcases(show i=0\/i=1 by omega)with rfl|rfl
   ·cases hx;exact⟨D,rfl,cg,rfl,λq m=>by cases m⟩
   ·cases hx;exact⟨G,rfl,ch,rfl,λq m=>by cases aam.mp m;exact J⟩
  refine⟨_,rfl,r.a,dr,_,rfl,er,rfl,_,rfl,r,_,i,nm,false,rfl,W.rc,cq,hn,(by show(List.map _ _).length<6;rw[aad,aaS];omega),λH2 rn=>?_⟩;have ed:({Do [] (L0.take i)with tr:=(Do [] (L0.take i)).tr++[(nm,rA (Do [] (L0.take i)).pg (Do [] (L0.take i)).rm false)]}:Sd)=Do [] (L0.take (i+1)):=by rw[iQ O];unfold Do;rw[aaw];rfl
  rw[ed]at rn;obtain⟨r',ea,W',tu⟩:=W.rcn rn (by omega) (Do.ok (by rw[aaS];omega) λl m=>a3 l (List.mem_of_mem_take m));rw[<-ea];exact hE _ _ ⟨r',_,rfl,W',tu.tk _ _ ht⟩
 rintro B H6⟨r2,u2,rfl,W2,_⟩;rw[show[V.str D,V.str G].length=L0.length by rw[a4];rfl,aaL,a4]at W2;clear W1 aC ad;refine cD _ _ ?_
 try dsimp only[eN,List.set]
 refine kh λDF cF=>?_;obtain⟨ec,ek,pk,_,_⟩:=ol W2;have bz:=co.kl;have aQ:=pk.len;refine⟨_,rfl,cc,_,rfl,(wQ ec).2.1,lk,rfl,⟨_,fj.of ek⟩,?_⟩;refine iW (xs:=ks) (λi B H'=>∃(r:pU)(u1 u2 u3:Option V),B=[some (.ref sa),some (.ref p),some (.ref cc),some (.ref r.a),some (.str D),some (.str G),u1,u2,u3,none,none,none,none,none,none]/\Ws Z C S R K H0 H' p dc r (Do (c.take i) L0) (2+i) []) ⟨r2,_,none,none,rfl,W2⟩ (λi B H' _ z=>by obtain⟨_,_,_,_,_,W⟩:=z;exact fj.of (ol W).2.1) ?_ ?_
 ·rintro i x B H1 hx⟨r,u1,u2,u3,rfl,W⟩;obtain⟨t,ht,b,a,xs,rfl,hb,ha,pf⟩:=(ol W).2.2.1.at hx;have kt:=co.ko t (aaj ht);have i3:i<3:=by have:=(aar.mp ht).1;omega
  have bA:=kt.ln;refine⟨b,_,rfl,gf.of hb,rfl,_,_,rfl,_,_,rfl,rfl,?_⟩;dsimp only[eN,List.set];refine xx λDG hG=>?_;obtain⟨dr,er⟩:=W.rc.at_.ob;refine⟨_,rfl,r.a,dr,_,rfl,er,rfl,_,rfl,_,rfl,r,_,_,t.1,a,xs,t.2,rfl,W.rc,λq m z=>?_,kt.nm,ha,pf,by omega,λf m=>(kt.sm f m).ok,kt.nd,(by show(c.take i).length<8;rw[aaS];omega),λH2 rn=>?_⟩
  ·obtain⟨j,hj⟩:=aax.mp (show q∈c.take i from m);have jl:j<i:=by have:=(aar.mp hj).1;rw[aaS]at this;omega
   rw[acG jl]at hj;have:=(ab8 (l:=c.map (·.1)) (i:=j) (j:=i) (by rw[aad];exact(aar.mp hj).1) co.kd).mp (by rw[aao,aao,hj,ht];simp[z]);omega
  ·have ed:({Do (c.take i) L0 with kn:=(Do (c.take i) L0).kn++[(t.1,t.2)]}:Sd)=Do (c.take (i+1)) L0:=by rw[iQ ht];rfl
   rw[ed]at rn;obtain⟨r',ea,W',_⟩:=W.rcn rn (by omega) (Do.ok (by omega) a3);rw[<-ea];exact hG _ _ ⟨r',_,_,_,rfl,W'⟩
 rintro B H7⟨r3,u1,u2,u3,rfl,W3⟩;rw[aQ,aaL,bz]at W3;clear W2 ec ek pk;refine cF _ _ ?_
 try dsimp only[eN,List.set]
 refine kh λDH cH=>?_;have bB:∀u v:V,oJ [] [(kk D,u),(kk G,v)]=[(kk D,u),(kk G,v)]:=λu v=>by show putK (putK [] (kk D) u) (kk G) v=_;rw[show putK [] (kk D) u=[(kk D,u)]from rfl,mG (λq m=>by cases aam.mp m;exactλz=>J (abt z))];rfl
 refineλY bj=>?_;have W4:=W3.new (o:=.dK []) bj (.inr ⟨_,rfl⟩);generalize upd H7 Y (.dK [])=H8 at W4|-;refine⟨_,rfl,(by ext),λx1 bl=>?_⟩;obtain⟨n1,bb⟩:=wM (o:=.tup [.str "all"]) bl;generalize upd H8 x1 (.tup [.str "all"])=H9 at n1 bb|-;have W5:=W4.same n1;refine⟨_,rfl,(by ext),λx2 bm=>?_⟩;obtain⟨n2,bc⟩:=wM (o:=.tup [.str "all"]) bm;generalize upd H9 x2 (.tup [.str "all"])=HA at n2 bc|-;have W6:=W5.same n2;have bC:=n2 _ _ bb;refine⟨(W6.ev (Y,.dK []) (by simp)).1,[(kk D,.ref x1),(kk G,.ref x2)],rfl,(show 2<=15 by decide),?_⟩;rw[bB];obtain⟨W7,t7⟩:=W6.upd (i:=0) (b:=Y) (o:=.dK [(kk D,.ref x1),(kk G,.ref x2)]) rfl (.inr ⟨_,rfl⟩);have e1:=t7.tk _ _ bC;have e2:=t7.tk _ _ bc;generalize upd HA Y (.dK [(kk D,.ref x1),(kk G,.ref x2)])=HB at W7 e1 e2|-;clear W3 W4 W5 W6 t7 bl bm bj bb bC bc;refine cH _ _ ?_
 try dsimp only[eN,List.set]
 refine kh λDI cI=>?_;refineλrd aD=>?_;have W8:=W7.new (o:=.dK []) aD (.inr ⟨_,rfl⟩);have e1:=di.new (o:=.dK []) aD _ _ e1;have e2:=di.new (o:=.dK []) aD _ _ e2;generalize upd HB rd (.dK [])=HC at W8 e1 e2|-;refine⟨_,rfl,(by ext),λla aE=>?_⟩;have W9:=W8.new (o:=.lst []) aE (.inl ⟨_,rfl⟩);have e1:=di.new (o:=.lst []) aE _ _ e1;have e2:=di.new (o:=.lst []) aE _ _ e2;generalize upd HC la (.lst [])=HD at W9 e1 e2|-;refine⟨_,rfl,(by ext),λlb aF=>?_⟩;have WA:=W9.new (o:=.lst []) aF (.inl ⟨_,rfl⟩);have e1:=di.new (o:=.lst []) aF _ _ e1;have e2:=di.new (o:=.lst []) aF _ _ e2;generalize upd HD lb (.lst [])=HE at WA e1 e2|-;refine⟨(WA.ev (rd,.dK []) (by simp)).1,[(kk D,.ref la),(kk G,.ref lb)],rfl,(show 2<=15 by decide),?_⟩;rw[bB];obtain⟨WB,t7⟩:=WA.upd (i:=1) (b:=rd) (o:=.dK [(kk D,.ref la),(kk G,.ref lb)]) rfl (.inr ⟨_,rfl⟩);have e1:=t7.tk _ _ e1;have e2:=t7.tk _ _ e2;generalize upd HE rd (.dK [(kk D,.ref la),(kk G,.ref lb)])=HF at WB e1 e2|-;clear W7 W8 W9 WA t7 aE aF aD;refine cI _ _ ?_
 try dsimp only[eN,List.set]
 refine kh λDJ cJ=>?_;have tA:∀{l x a H},H x=some (.tup [.str "all"])->Lf K H ⟨l,m9 16 12 false,0,vP,.ref x,a,[],[]⟩:=λe=>⟨.tup (gf.of e) (.cons (.str _) .nil),rE.all.tr.mono (by decide),(show jx vP=true by ext),.nil,Gv.new⟩;subst a0;have I0:∃L:List Lw,Li Z C S R K H0 HF p dc Y rd c D G r3 L 5 0:=by
  refine⟨[⟨D,m9 16 12 false,0,vP,.ref x1,la,[],[]⟩,⟨G,m9 16 12 false,0,vP,.ref x2,lb,[],[]⟩],WB,rfl,λl m=>?_,λl m=>?_⟩
  all_goals rcases aai.mp m with rfl|m
  ·exact tA e1
  ·cases aam.mp m;exact tA e2
  ·exact aaf _
  ·cases aam.mp m;exact aaf _
 obtain⟨L0,WL⟩:=I0;clear WB e1 e2 tA a3 a4;refine⟨_,rfl,p,dc,30,rfl,WL.w.dr,by decide,by decide,λtn HG cw cx DG tG=>⟨_,_,rfl,rfl,_,rfl,by omega,by omega,?_⟩⟩
 replace WL:=WL.but tG DG
 clear tG DG;refine qb (lo:=0) (λi B H'=>∃(r:pU)(L:List Lw)(n:Nat)(u6 u7 u8 a2 aL aM:Option V),B=[some (.ref sa),some (.ref p),some (.ref cc),some (.ref r.a),some (.str D),some (.str G),u6,u7,u8,some (.ref Y),some (.ref rd),a2,aL,aM,none]/\n<=5+3*i/\Li Z C S R K H0 H' p dc Y rd c D G r L n i) ⟨r3,L0,5,_,_,_,none,none,none,rfl,aaf _,WL⟩ ?_ ?_
 ·rintro i B H1 hi⟨r,L,n,u6,u7,u8,a2,aL,aM,rfl,nl,I⟩;have cj:i<39:=by omega
  dsimp only[eN,List.set];refine xx λDK hK=>kh λDL cL=>?_;refine⟨_,rfl,_,rfl,_,rfl,_,rfl,(by ext),λq hq=>⟨p,dc,q,_,rfl,I.w.dr.new hq,fj.of a_,by simp,by simp,λy H2 hy D2 t2=>?_⟩⟩;have I2:=(I.same (di.new (o:=.lst [.str D,.str D,.str G]) hq)).but t2 D2;obtain⟨j,l,O,rfl⟩:∃(j:Nat)(l:Lw),L[j]?=some l/\y=.str l.nm:=by
   have hn:=I.nm;have g:∀(j:Nat)(x:Str),[D,G][j]?=some x->∃l:Lw,L[j]?=some l/\l.nm=x:=λj x e=>by
    rw[<-hn,aao]at e;cases h:L[j]? with
    |none=>rw[h]at e;cases e
    |some l=>rw[h]at e;cases e;exact⟨l,rfl,rfl⟩
   simp only[aai,aa4,or_false]at hy;rcases hy with rfl|rfl|rfl
   ·obtain⟨l,h1,h2⟩:=g 0 D rfl;exact⟨0,l,h1,by rw[h2]⟩
   ·obtain⟨l,h1,h2⟩:=g 0 D rfl;exact⟨0,l,h1,by rw[h2]⟩
   ·obtain⟨l,h1,h2⟩:=g 1 G rfl;exact⟨1,l,h1,by rw[h2]⟩
  clear I hq t2 D2 hy;refine cL _ _ ?_
  try dsimp only[eN,List.set]
  refine kh λDM cM=>BR (λB H'=>∃(r':pU)(L':List Lw)(l':Lw)(n':Nat),r'.a=r.a/\L'[j]?=some l'/\l'.nm=l.nm/\n'<=n+1/\B=[some (.ref sa),some (.ref p),some (.ref cc),some (.ref r.a),some (.str D),some (.str G),some (.str l.nm),u7,u8,some (.ref Y),some (.ref rd),some (.int (0+i)),aL,aM,none]/\Li Z C S R K H0 H' p dc Y rd c D G r' L' n' i) ?_ λD' hD=>?_
  rotate_left
  ·refine⟨_,rfl,p,dc,5,rfl,I2.w.dr,by decide,by decide,λm H3 m0 m1 D3 t3=>?_⟩;have I3:=I2.but t3 D3;clear I2 t3 D3;refine⟨rfl,_,rfl,jT (λ_=>?_) (λ_=>?_)⟩
   ·refine⟨_,rfl,_,rfl,p,dc,cc,c,D::G::wr,rfl,I3.w.dr,⟨lk,ll,lt,lf,ks,us,(ol I3.w).1,(ol I3.w).2.1,(ol I3.w).2.2.1,(ol I3.w).2.2.2.1,(ol I3.w).2.2.2.2,ul⟩,co,λx e H4 rx tr te D4 t4=>?_⟩;have U:=I3.but t4 D4;clear I3 t4 D4;obtain⟨g1,_,_⟩:=U.gt J O;refine⟨_,rfl,_,rfl,Y,_,rfl,o8.k (k:=kk l.nm) (U.w.ev (Y,Jp L) (aal ..)).1 (by rw[aad,U.len];decide),?_⟩;obtain⟨l5,e5⟩:∃l5:Lw,l5={l with ts:=e,x:=x}:=⟨_,rfl⟩;have pm:=Jx (f:=λl=>l.x) (l':=l5) (U.nd J) O (by rw[e5]);rw[show l5.x=x by rw[e5]]at pm;rw[pm];obtain⟨W5,t5⟩:=U.w.upd (i:=0) (b:=Y) (o:=Jp (L.set j l5)) rfl (.inr ⟨_,rfl⟩);rw[Mo.ts (l':=l5) O (by rw[e5]) (by rw[e5]) (by rw[e5])]at W5;have aR:=t5.rep rx tr.td;have a5:∀q∈L,Lf K _ q:=λq m=>(U.lf q m).tu t5;have a6:upd H4 Y (Jp (L.set j l5)) Y=some (Jp (L.set j l5)):=a_;unfold Jp at W5 t5 aR a5 a6;generalize upd H4 Y (.dK ((L.set j l5).map λl=>(kk l.nm,l.x)))=H5 at W5 t5 aR a5 a6|-;obtain⟨dr,er⟩:=W5.rc.at_.ob;have il:=(aar.mp O).1;have bD:(L.set j l5)[j]?=some l5:=by rw[abk,aac rfl,aac il]
    have cl:((L.set j l5).map (·.nm)).Nodup:=by rw[eY (·.nm) O (by rw[e5])];exact U.nd J
    have g5:=j8.k (k:=kk l5.nm) a6;rw[o6 (f:=λl=>l.x) cl bD]at g5;rw[show l5.nm=l.nm by rw[e5],show l5.x=x by rw[e5]]at g5;refine⟨_,rfl,r.a,dr,_,rfl,er,rfl,_,rfl,_,rfl,_,rfl,Y,_,rfl,g5,r,_,n,l.nm,j,_,x,e,rfl,W5.rc,Do.at O,rfl,aR,tr.td,te,λH6 rn=>?_⟩;have ed:({Do c L with tr:=(Do c L).tr.set j (l.nm,⟨l.ln,l.ck,e⟩)}:Sd)=Do c (L.set j l5):=by rw[<-Do.set,e5]
    have rn:Jo Z C S R K r n H5 {Do c L with tr:=(Do c L).tr.set j (l.nm,⟨l.ln,l.ck,e⟩)} H6:=rn;rw[ed]at rn;have a7:=a5 l (aaj O);have aS:yj (Do c (L.set j l5)):=Do.oks U.lf U.al U.len (by omega) (by rw[e5];exact a7.gv) (by rw[e5];exact aag (U.al l (aaj O)) (by omega));obtain⟨r',ea,W6,t6⟩:=W5.rcn rn (by omega) aS;have aT:Lf K H5 l5:=by rw[e5];exact⟨aR,tr,te,a7.ev,a7.gv⟩
    exact hD _ _ ⟨r',L.set j l5,l5,n+1,ea,bD,by rw[e5],aaf _,rfl,U.step O W6 (t5.trans t6) (aT.tu t6) (by rw[e5]) (by rw[e5];exact U.al l (aaj O)) (aaf _)⟩
   ·exact hD _ _ ⟨r,L,l,n,rfl,O,rfl,by omega,rfl,I3⟩
  rintro B H3⟨r3,L3,l3,n3,bU,ab,bV,cr,rfl,I3⟩;rw[<-bU,<-bV];have cW:n3<=6+3*i:=by omega
  clear I2 O bU bV nl cr;clear l L r n;refine cM _ _ (kh λDN cN=>?_);obtain⟨dr,er⟩:=I3.w.rc.at_.ob;refine⟨_,rfl,r3.a,dr,_,rfl,er,rfl,_,rfl,_,rfl,p,dc,3,rfl,I3.w.dr,by decide,by decide,λm H4 m0 m1 D4 t4=>?_⟩;have U:=I3.but t4 D4;clear I3 t4 D4 er dr;refine⟨r3,_,n3,l3.nm,j,_,m,rfl,U.w.rc,Do.at ab,rfl,m0,by omega,λH5 rn=>?_⟩;obtain⟨l,el⟩:∃l:Lw,l={l3 with ck:=l3.ck+m}:=⟨_,rfl⟩;have ah:Jo Z C S R K r3 n3 H4 {Do c L3 with tr:=(Do c L3).tr.set j (l.nm,⟨l.ln,l.ck,l.ts⟩)} H5:=by rw[el];exact rn
  rw[Do.set l]at ah;have il:=(aar.mp ab).1;have O:(L3.set j l)[j]?=some l:=by rw[abk,aac rfl,aac il]
  have aU:Gv l.A l.ln l.ck:=by rw[el];exact(U.lf l3 (aaj ab)).gv.tick (show l3.ck<=l3.ck+m by omega)
  have aS:yj (Do c (L3.set j l)):=Do.oks U.lf U.al U.len (by omega) aU (by rw[el];exact aag (U.al l3 (aaj ab)) (by omega));obtain⟨r,ea,W5,t5⟩:=U.w.rcn ah (by omega) aS;rw[<-Mo.same (l':=l) ab (by rw[el]) (by rw[el]) (by rw[el]) (by rw[el])]at W5;have ax:=(U.lf l3 (aaj ab)).tu t5;have aT:Lf K H5 l:=by rw[el]at aU|-;exact⟨ax.rx,ax.tr,ax.te,ax.ev,aU⟩
  have I5:=U.step ab W5 t5 aT (by rw[el]) (by rw[el];exact U.al l3 (aaj ab)) (aaf i);rw[<-ea,show l3.nm=l.nm by rw[el]];generalize L3.set j l=L at I5 O;clear U W5 t5 ax aT aS aU rn ah ea el ab il;clear l3 L3;refine cN _ _ (kh λDO cO=>?_);obtain⟨ec,ek,pk,_,_⟩:=ol I5.w;have bz:=co.kl;have aQ:=pk.len;refine⟨_,rfl,_,rfl,cc,_,rfl,(wQ ec).2.1,p,dc,lk,ks,rfl,I5.w.dr,fj.of ek,(λz=>by rw[z]at aQ;simp at aQ;omega),by omega,λy H6 hy D6 t6=>?_⟩;have I6:=I5.but t6 D6;clear I5 t6 D6 ec ek pk;obtain⟨jk,bR⟩:=aax.mp hy;obtain⟨t,ht,b,a,xs,rfl,hb,ha,pf⟩:=(ol I6.w).2.2.1.at bR;have kt:=co.ko t (aaj ht);have bA:=kt.ln;refine⟨b,_,rfl,gf.of hb,rfl,_,_,rfl,_,_,rfl,rfl,?_⟩;refine cO _ _ ?_
  try dsimp only[eN,List.set]
  refine kh λDP cP=>?_;have lf:=I6.lf l (aaj O);obtain⟨g1,g2,g3⟩:=I6.gt J O;obtain⟨tf,be,et⟩:=ju lf.tr.td lf.tr.sh;obtain⟨q0,aY⟩:∃q0,l.x=.ref q0:=by have:=lf.rx;rw[et]at this;cases hx:l.x<;>rw[hx]at this<;>cases this;exact⟨_,rfl⟩
  rw[aY]at g1;refine⟨_,rfl,_,rfl,_,rfl,Y,_,rfl,g1,_,rfl,p,dc,q0,a,(.str tf::be),xs,t.2,rfl,I6.w.dr,by rw[<-aY,<-et];exact lf.rx,by rw[<-et];exact lf.tr.td,by rw[<-et];exact aag lf.tr.dp (by decide),ha,pf,by omega,(λf m=>(kt.sm f m).ok),λbv zs H7 ai zl bx D7 t7 b0=>?_⟩;have fz:Pd ug t.2 zs:=by
   have:∀{zs:List Int}{fs:List ji},Bx zs fs->Pd ug fs zs:=λh=>by
    induction h with
    |nil=>exact .nil
    |cons a _ ih=>exact .cons a ih
   exact this bx
  have I7:=I6.but t7 D7;have bE:=TK.but I6.w.dr t7 _ _ ha;have bF:=j7 pf (TK.but I6.w.dr t7);have aV:=I7.lf l (aaj O);have g7:=(I7.gt J O).1;rw[aY]at g7;clear I6 hy bR hb ha pf lf g1 g2 g3 t7 D7 b0 bx;refine cP _ _ ?_
  try dsimp only[eN,List.set]
  refine kh λDQ cQ=>?_;have b5:gK l.ts=true/\iD l.ts<=5:=by have te:=aV.te;unfold jx at te;simp only[aaK,abi]at te;exact⟨te.1,te.2.1⟩
  refine⟨_,rfl,_,rfl,Y,_,rfl,g7,_,rfl,_,rfl,_,rfl,q0,a,bv,tf,t.1,be,xs,t.2,zs,rfl,⟨by rw[<-aY,<-et];exact aV.rx,by rw[<-et];exact aV.tr.td,by rw[<-et];exact b5.1,by rw[<-et];exact b5.2,bE,bF,by omega,ai,zl⟩,λH8 s8=>?_⟩;have I8:=I7.same s8;have ai:=s8 _ _ ai;have a8:=I8.lf l (aaj O);rw[show ie t.1 t.2 zs 5 tf be=n6 t.1 t.2 zs l.ts by rw[et];rfl];generalize hb:n6 t.1 t.2 zs l.ts=b;clear I7 s8 aV g7 b5 bE bF;refine cQ _ _ ?_
  try dsimp only[eN,List.set]
  refine kh λDR cR=>BR (λB H'=>∃aw,B=[some (.ref sa),some (.ref p),some (.ref cc),some (.ref r.a),some (.str D),some (.str G),some (.str l.nm),some (.str t.1),some (.ref a),some (.ref Y),some (.ref rd),some (.int (0+i)),some (.ref bv),some (.bl b),none]/\Ws Z C S R K H0 H' p dc r (Do c L) (n3+1) (Mo Y rd (L.set j {l with ys:=aw}))/\(∀q∈L,Lf K H' q)/\Pd (nQ H') aw (idx 0 (if b=true then l.A++[K5 t.1 t.2 l.ck zs l.ln]else l.A))/\H' bv=some (.tup (zs.map V.int))) ?_ λD' hD=>?_
  rotate_left
  ·refine⟨_,rfl,_,rfl,jT (λb3=>?_) (λb4=>?_)⟩
   ·obtain⟨_,g2,g3⟩:=I8.gt J O;obtain⟨dr,er⟩:=I8.w.rc.at_.ob;have yl:=a8.ev.len;rw[lK]at yl;have al:=I8.al l (aaj O);refine⟨_,rfl,_,rfl,rd,_,rfl,g2,.inl ⟨rfl,_,fj.of g3⟩,_,rfl,_,rfl,rd,_,rfl,g2,l.a,l.ys,rfl,.inl (fj.of g3),_,rfl,r.a,dr,_,rfl,er,rfl,_,rfl,r,_,_,l.nm,j,_,rfl,I8.w.rc.at_,Do.at O,rfl,_,rfl,_,rfl,(by ext),λtp ad=>⟨l.a,l.ys,_,rfl,rfl,di.new ad _ _ g3,abp (show l.ys.length<=100 by omega) (by decide),?_⟩⟩;obtain⟨n1,bS⟩:=wM (o:=.tup [.str "event",.int l.ys.length,.int l.ck,.str t.1,.ref bv]) ad;generalize upd H8 tp (.tup [.str "event",.int l.ys.length,.int l.ck,.str t.1,.ref bv])=H9 at n1 bS;have I9:=I8.same n1;have ay:=n1 _ _ ai;have mj:(Mo Y rd L)[j+2]?=some (l.a,.lst l.ys):=by show(L.map _)[j]?=_;rw[aao,O];rfl
    obtain⟨WA,tA⟩:=I9.w.upd (o:=.lst (l.ys++[.ref tp])) mj (.inl ⟨_,rfl⟩);rw[show(HO.lst (l.ys++[.ref tp]))=.lst ({l with ys:=l.ys++[.ref tp]}:Lw).ys from rfl,Mo.ys (l':={l with ys:=l.ys++[.ref tp]}) O rfl rfl rfl]at WA;refine hD _ _ ⟨l.ys++[.ref tp],rfl,WA,λq m=>(I9.lf q m).tu tA,?_,tA.tk _ _ ay⟩;rw[aac b3,wL];refine Pd.app (.cons ⟨tp,bv,rfl,?_,tA.tk _ _ ay⟩ .nil) (((I9.lf l (aaj O)).tu tA).ev);have:=tA.tk _ _ bS;rw[yl]at this;show upd H9 l.a _ tp=some (.tup [.str "event",.int (0+l.A.length),.int l.ck,.str t.1,.ref bv]);rw[abN];exact this
   ·exact hD _ _ ⟨l.ys,rfl,(by rw[show({l with ys:=l.ys}:Lw)=l from rfl,kZ O];exact I8.w),I8.lf,by rw[aab b4];exact a8.ev,ai⟩
  rintro B H9⟨aw,rfl,W9,F9,bW,ay⟩;have bG:=I8.al l (aaj O);have bH:=I8.al;have cm:=I8.len;have cn:=I8.nm;clear I8 a8 ai;refine cR _ _ ?_
  try dsimp only[eN,List.set]
  refine kh λDS cS=>?_;have lf:=F9 l (aaj O);have al:=bG;obtain⟨dr,er⟩:=W9.rc.at_.ob;have ko:tO t.1 t.2:=⟨kt.nm,by omega,λf m=>(kt.sm f m).ok,kt.nd⟩;refine⟨_,rfl,r.a,dr,_,rfl,er,rfl,_,rfl,_,rfl,_,rfl,r,_,_,l.nm,t.1,bv,j,jk,_,t,zs,rfl,W9.rc,Do.at O,rfl,ay,ht,rfl,rfl,rfl,ko,lf.gv.ok (by omega) fz,lf.tr.td,lf.te,λrr hh a1 sl rn=>?_⟩;dsimp only at rn|-;rw[hb]at rn|-;obtain⟨l9,e9⟩:∃l9:Lw,l9={l with ln:=R6 t.1 t.2 l.ck zs l.ln rr hh b,ys:=aw,A:=if b=true then l.A++[K5 t.1 t.2 l.ck zs l.ln]else l.A}:=⟨_,rfl⟩;have ah:Jo Z C S R K r (n3+1) H9 {Do c L with tr:=(Do c L).tr.set j (l9.nm,⟨l9.ln,l9.ck,l9.ts⟩)} a1:=by rw[e9];exact rn
  rw[Do.set l9]at ah;have il:=(aar.mp O).1;have aW:Gv l9.A l9.ln l9.ck:=by rw[e9];exact lf.gv.put sl ko bA (by omega) b
  have bI:l9.A.length<=i+1:=by
   rw[e9];show(if b=true then _ else _:List Cl).length<=i+1;split
   ·rw[aas];simp;omega
   ·omega
  have bJ:yj (Do c (L.set j l9)):=Do.oks F9 bH cm (by omega) aW (by omega);obtain⟨r',ea,bf,aZ⟩:=W9.rcn ah (by omega) bJ;rw[<-Mo.same (L:=L.set j {l with ys:=aw}) (l':=l9) (i:=j) (by rw[abk,aac rfl,aac il]) (by rw[e9]) (by rw[e9]) (by rw[e9]) (by rw[e9]),List.set_set]at bf;have bL:Lf K a1 l9:=by have:=lf.tu aZ;rw[e9]at aW|-;exact⟨this.rx,this.tr,this.te,bW.map λ_ _ e=>e.tk aZ.tk,aW⟩
  have a9:Li Z C S R K H0 a1 p dc Y rd c D G r' (L.set j l9) (n3+1+1) (i+1):=by
   refine⟨bf,by rw[eY (·.nm) O (by rw[e9])];exact cn,λq m=>?_,λq m=>?_⟩
   all_goals rcases abf m with m|rfl
   ·exact(F9 q m).tu aZ
   ·exact bL
   ·exact Nat.le_succ_of_le (bH q m)
   ·exact bI
  generalize L.set j l9=L' at a9;rw[<-ea];refine⟨_,rfl,_,_,_,rfl,.bl b,.bl b,aaJ _,aaJ _,λcy bn=>⟨_,rfl,gW rfl ?_⟩⟩;have X:=a9.same bn;clear a9 bn bf aZ bL aW bI bJ rn ah e9 il ea er W9 F9 bW lf sl;clear ay fz zl;refine cS _ _ (kh λDT cT=>?_);obtain⟨u,v,rfl⟩:=Ja X.len;have az:=Do.at (kts:=c) (L:=[u,v]) (i:=0) (l:=u) rfl;have aA:=Do.at (kts:=c) (L:=[u,v]) (i:=1) (l:=v) rfl;have nm:=X.nm;have eu:u.nm=D:=by have:=aaB (·[0]?) nm;simpa using this
  have ew:v.nm=G:=by have:=aaB (·[1]?) nm;simpa using this
  have fu:=X.lf u (by simp);have fv:=X.lf v (by simp);have lu:=fu.gv.lno (aag (X.al u (by simp)) (by omega));have lv:=fv.gv.lno (aag (X.al v (by simp)) (by omega));have gu:=X.gt J (j:=0) (l:=u) rfl;have gv:=X.gt J (j:=1) (l:=v) rfl;rw[eu]at gu;rw[ew]at gv;obtain⟨dr,er⟩:=X.w.rc.at_.ob;refine⟨_,rfl,r'.a,dr,_,rfl,er,rfl,_,rfl,r',_,_,D,0,_,rfl,X.w.rc.at_,az,eu,lu.2.1,lu.2.2.1,lu.2.2.2,λk1 b6 cz aG aH ao=>?_⟩;refine⟨_,rfl,r'.a,dr,_,rfl,aG _ _ er,rfl,_,rfl,r',_,_,G,1,_,rfl,X.w.rc.at_.same aG,aA,ew,lv.2.1,lv.2.2.1,lv.2.2.2,λk2 b7 b8 aI aJ ap=>?_⟩;refine⟨(by ext),λlp aq=>?_⟩;obtain⟨n1,aB⟩:=wM (o:=.lst [.ref k1,.ref k2]) aq;generalize upd b8 lp (.lst [.ref k1,.ref k2])=ct at n1 aB|-;have aX:=X.same ((aG.trans aI).trans n1);have ak:=aX.gt J (j:=0) (l:=u) rfl;have am:=aX.gt J (j:=1) (l:=v) rfl;rw[eu]at ak;rw[ew]at am;refine⟨_,rfl,_,rfl,rd,_,rfl,ak.2.1,_,rfl,_,rfl,rd,_,rfl,am.2.1,(by ext),λlq ag=>?_⟩;obtain⟨n2,bg⟩:=wM (o:=.lst [.ref u.a,.ref v.a]) ag;generalize upd ct lq (.lst [.ref u.a,.ref v.a])=bX at n2 bg|-;have af:=aX.same n2;have n3:=n1.trans n2;have ao:Pd (oV bX) b6 _:=ao.map λ_ _ e=>e.tk λb ys e=>n3 _ _ (aI _ _ e);have ap:Pd (oV bX) b7 _:=ap.map λ_ _ e=>e.tk λb ys e=>n3 _ _ e;have aB:=n2 _ _ aB;have aH:=n3 _ _ (aI _ _ aH);have aJ:=n3 _ _ aJ;clear aX ak am aG aI aq gu gv er n1 n2 n3 ag;have bM:=af.lf u (by simp);have bN:=af.lf v (by simp);have yu:=af.gt J (j:=0) (l:=u) rfl;have yv:=af.gt J (j:=1) (l:=v) rfl;rw[fu.gv.look]at ao;rw[fv.gv.look]at ap;have bd:∀q:Lw,q∈[u,v]->(i_ ((idx 0 q.A).map Ff)<=60/\((idx 0 q.A).map Ff).length<=60):=λq m=>⟨Bk _ λe me=>(af.lf q m).gv.vl _ (Bw me),by rw[aad,lK];exact aag (af.al q m) (by omega)⟩;have b1:=bd u (by simp);have b2:=bd v (by simp);refine⟨_,_,.list [.list ((idx 0 u.A).map Ff),.list ((idx 0 v.A).map Ff)],rfl,.lst (fj.of aB) (.cons (.lst (fj.of aH) (nH (vM ao))) (.cons (.lst (fj.of aJ) (nH (vM ap))) .nil)),.lst (fj.of bg) (.cons (.lst (fj.of yu.2.2) (nH bM.ev)) (.cons (.lst (fj.of yv.2.2) (nH bN.ev)) .nil)),?_,?_,λcE bo=>⟨_,rfl,gW rfl ?_⟩⟩
  ·have d1:=vB (idx 0 u.A);have d2:=vB (idx 0 v.A);simp only[gU,gA];omega
  ·simp only[jO,i_,aav,aa6];omega
  have aa:=af.same bo;clear af X ao ap aB bg aH aJ yu yv bM bN b1 b2 bd fu fv bo lu lv;refine cT _ _ (xx λDU cU=>?_);obtain⟨dr,er⟩:=aa.w.rc.at_.ob;have gu:=aa.gt J (j:=0) (l:=u) rfl;have gv:=aa.gt J (j:=1) (l:=v) rfl;rw[eu]at gu;rw[ew]at gv;have fu:=aa.lf u (by simp);have fv:=aa.lf v (by simp);refine⟨_,rfl,r'.a,dr,_,rfl,er,rfl,_,rfl,r',_,_,D,0,_,rfl,aa.w.rc.at_,az,eu,λxv b9=>?_⟩;refine⟨_,rfl,r'.a,dr,_,rfl,er,rfl,_,rfl,r',_,_,G,1,_,rfl,aa.w.rc.at_,aA,ew,λxw cb=>?_⟩;refine⟨(by ext),λlp aq=>?_⟩;have bO:=aa.same (di.new (o:=.lst [xv,xw]) aq);have ak:=bO.gt J (j:=0) (l:=u) rfl;have am:=bO.gt J (j:=1) (l:=v) rfl;rw[eu]at ak;rw[ew]at am;refine⟨_,rfl,_,rfl,Y,_,rfl,ak.1,_,rfl,_,rfl,Y,_,rfl,am.1,(by ext),λlq ag=>?_⟩;have s2:=(di.new (o:=.lst [xv,xw]) aq).trans (di.new (o:=.lst [u.x,v.x]) ag);refine⟨_,_,.list [u.ts,v.ts],rfl,.lst (fj.of (di.new ag _ _ a_)) (.cons (b9.same s2) (.cons (cb.same s2) .nil)),.lst (fj.of a_) (.cons (fu.rx.same s2) (.cons (fv.rx.same s2) .nil)),?_,?_,λcG ce=>⟨_,rfl,gW rfl ?_⟩⟩
  ·have d1:=fu.tr.dp;have d2:=fv.tr.dp;simp only[gU,gA];omega
  ·have d1:=Ir fu.tr.td;have d2:=Ir fv.tr.td;simp only[jO,i_,aav,aa6];omega
  exact cU _ _ (hK _ _ ⟨r',[u,v],_,_,_,_,_,_,_,rfl,by omega,aa.same (s2.trans ce)⟩)
 ·rintro B HX⟨r,L,n,u6,u7,u8,a2,aL,aM,rfl,nl,I⟩;refine cJ _ _ ?_
  try dsimp only[eN,List.set]
  refine kh λDV cV=>?_;obtain⟨u,v,rfl⟩:=Ja I.len;have az:=Do.at (kts:=c) (L:=[u,v]) (i:=0) (l:=u) rfl;have aA:=Do.at (kts:=c) (L:=[u,v]) (i:=1) (l:=v) rfl;have nm:=I.nm;have eu:u.nm=D:=by have:=aaB (·[0]?) nm;simpa using this
  have ew:v.nm=G:=by have:=aaB (·[1]?) nm;simpa using this
  have cj:(10+tn).toNat<=39:=by omega
  have au:=I.al u (by simp);have av:=I.al v (by simp);refine⟨_,rfl,_,rfl,(by ext),λtp ad=>⟨tp,rfl,⟨_,gf.of a_⟩,?_⟩⟩;obtain⟨n1,bT⟩:=wM (o:=.tup [.str D,.str G]) ad;generalize upd HX tp (.tup [.str D,.str G])=H1 at n1 bT|-;have I1:=I.same n1;clear I ad;refine iY (xs:=[.str D,.str G]) (λi ys B H'=>(∃w,B=[w,some (.ref r.a)])/\di H1 H'/\ys=(([(u.A.length:Int),(v.A.length:Int)].take i).map V.int)) (by ext) ⟨⟨none,rfl⟩,di.refl _,rfl⟩ (λi ys B H' _ z=>gf.of (z.2.1 _ _ bT)) ?_ ?_
  ·rintro i x ys B H2 hx hy⟨⟨w,rfl⟩,s2,rfl⟩N hN;dsimp only[eN,List.set];have I2:=I1.same s2;obtain⟨dr,er⟩:=I2.w.rc.at_.ob;have i2:i<2:=(aar.mp hx).1;obtain⟨nq,q,rfl,hq,eq,hA⟩:∃(nq:Str)(q:Lw),x=.str nq/\[u,v][i]?=some q/\q.nm=nq/\[(u.A.length:Int),(v.A.length:Int)][i]?=some (q.A.length:Int):=by
    rcases(show i=0\/i=1 by omega)with rfl|rfl
    ·cases hx;exact⟨D,u,rfl,rfl,eu,rfl⟩
    ·cases hx;exact⟨G,v,rfl,rfl,ew,rfl⟩
   refine⟨_,rfl,r.a,dr,_,rfl,er,rfl,_,rfl,r,_,_,nq,i,_,rfl,I2.w.rc.at_,Do.at (kts:=c) (L:=[u,v]) hq,eq,λt H3 s3 ht=>⟨t,_,_,_,rfl,rfl,gf.of ht,pD,?_⟩⟩;refine hN _ _ _ (by simpa using hy) ⟨⟨_,rfl⟩,s2.trans s3,?_⟩;rw[iQ hA,aaw,show q.ln.giv=(q.A.length:Int)from(I2.lf q (aaj hq)).gv.giv];rfl
  ·rintro ys B H2 hy⟨_,s2,ey⟩;obtain rfl:ys=[.int u.A.length,.int v.A.length]:=ey;refine⟨(by ext),λlg cf=>?_⟩;obtain⟨n1,eg⟩:=wM (o:=.lst [.int u.A.length,.int v.A.length]) cf;generalize upd H2 lg (.lst [.int u.A.length,.int v.A.length])=H3 at n1 eg|-;have I2:=(I1.same s2).same n1;refine cV _ _ ?_
   try dsimp only[eN,List.set]
   have gu:=I2.gt J (j:=0) (l:=u) rfl;have gv:=I2.gt J (j:=1) (l:=v) rfl;rw[eu]at gu;rw[ew]at gv;have yu:=(I2.lf u (by simp)).ev.len;have yv:=(I2.lf v (by simp)).ev.len;rw[lK]at yu yv;refine⟨_,rfl,_,rfl,_,rfl,rd,_,rfl,gu.2.1,u.a,u.ys,rfl,.inl (fj.of gu.2.2),_,rfl,_,rfl,rd,_,rfl,gv.2.1,v.a,v.ys,rfl,.inl (fj.of gv.2.2),(by ext),λlq ag=>?_⟩;obtain⟨n2,bh⟩:=wM (o:=.lst [.int u.ys.length,.int v.ys.length]) ag;generalize upd H3 lq (.lst [.int u.ys.length,.int v.ys.length])=H4 at n2 bh|-;have U:=I2.same n2;have bP:=n2 _ _ eg;rw[yu,yv]at bh;obtain⟨dr,er⟩:=U.w.rc.at_.ob;have fu:=U.lf u (by simp);have fv:=U.lf v (by simp);have lu:=fu.gv.lno (aag au (by omega));have lv:=fv.gv.lno (aag av (by omega));have et:Ni (Do c [u,v])=evs (idx 0 u.A)++evs (idx 0 v.A):=by show jy u.ln++(jy v.ln++[])=_;rw[aaQ,fu.gv.look,fv.gv.look]
   have ef:((Ni (Do c [u,v])).filter pN).length=u.A.length+v.A.length:=by
    rw[et,List.filter_eq_self.mpr,aas]
    ·unfold evs;rw[aad,aad,lK,lK]
    ·intro x m;rcases aak.mp m with m|m<;>(obtain⟨e,_,rfl⟩:=aap.mp m;rfl)
   have eL:(Ni (Do c [u,v])).length<=900:=by rw[et,aas];unfold evs;rw[aad,aad,lK,lK];omega
   have hT:lB (.list [.int u.A.length,.int v.A.length]) (.list [.int u.A.length,.int v.A.length])=true:=by simp[lB,jw]
   refine⟨.list [.int u.A.length,.int v.A.length],.list [.int u.A.length,.int v.A.length],.lst (fj.of bP) (.cons (.int _) (.cons (.int _) .nil)),.lst (fj.of bh) (.cons (.int _) (.cons (.int _) .nil)),(show 1<=60 by decide),?_⟩;refine⟨_,rfl,j5 hT ⟨_,rfl,r.a,dr,_,rfl,er,r,_,_,rfl,U.w.rc.at_,show 2<=900 by decide,λq m=>?_,eL,λH7 s7=>⟨_,rfl,by rw[ef];omega,?_⟩⟩⟩
   ·rcases aai.mp m with rfl|m
    ·exact⟨lu.2.1,lu.2.2.1,lu.2.2.2⟩
    ·cases aam.mp m;exact⟨lv.2.1,lv.2.2.1,lv.2.2.2⟩
   ·refine⟨_,rfl,lg,[(u.A.length:Int),v.A.length],rfl,fj.of (s7 _ _ bP),(show 2<=1000 by decide),λx m=>?_,?_⟩
    ·simp only[aai,aa4,or_false]at m;omega
    ·refine⟨rfl,?_⟩;rw[ef,show([(u.A.length:Int),(v.A.length:Int)].sum)=((u.A.length+v.A.length:Nat):Int) by simp,aa1 rfl];exact k _
end
def Ka(h:∀(S:Setting)(x a b c:ZI),peek K S (bindArgs f ⟨[x],[("pages",a),("room",b),("over",c)]⟩)=some ([("self",x),("pages",a),("room",b),("over",c)]:List (Str×Value))):k_ K f ["self","pages","room","over"] ["pages","room","over"] gL Xo:=by
 refine⟨λs d e X g=>?_,λ{vs d j e}r i=>?_⟩
 ·match d,e,g with
  |[x],[a,b,c],_=>exact kp_binds X λS=>h S x a b c
  |[],_,z=>simp[gL]at z
  |[_],[],z=>simp[gL]at z
  |[_],[_],z=>simp[gL]at z
  |[_],[_,_],z=>simp[gL]at z
  |[_],_::_::_::_::_,z=>simp[gL]at z
  |_::_::_,_,z=>simp[gL]at z
 ·cases r with
  |nil=>exact .nil
  | cons r1 r=>
    cases r with
    |cons r2 r=>exact .nil
    | nil=>
      cases i with
      |nil=>exact .nil
      | cons z1 z=>
        cases z with
        |nil=>exact .nil
        | cons z2 z=>
          cases z with
          |nil=>exact .nil
          | cons z3 z=>
            cases z with
            |cons z4 z=>exact .nil
            |nil=>exact .cons r1 (.cons z1 (.cons z2 (.cons z3 .nil)))
def Qn(h:∀(S:Setting)(x a b:ZI),peek K S (bindArgs e ⟨[x],[("pages",a),("room",b)]⟩)=some ([("self",x),("pages",a),("room",b)]:List (Str×Value))):k_ K e ["self","pages","room"] ["pages","room"] gR Zb:=by
 refine⟨λs c d X f=>?_,λ{vs c i d}r g=>?_⟩
 ·match c,d,f with
  |[x],[a,b],_=>exact kp_binds X λS=>h S x a b
  |[],_,z=>simp[gR]at z
  |[_],[],z=>simp[gR]at z
  |[_],[_],z=>simp[gR]at z
  |[_],_::_::_::_,z=>simp[gR]at z
  |_::_::_,_,z=>simp[gR]at z
 ·cases r with
  |nil=>exact .nil
  | cons r1 r=>
    cases r with
    |cons r2 r=>exact .nil
    | nil=>
      cases g with
      |nil=>exact .nil
      | cons z1 z=>
        cases z with
        |nil=>exact .nil
        | cons z2 z=>
          cases z with
          |cons z4 z=>exact .nil
          |nil=>exact .cons r1 (.cons z1 (.cons z2 .nil))
def Mq(h:∀(S:Setting)(x a b:ZI),peek K S (bindArgs e ⟨[x,a],[("over",b)]⟩)=some ([("self",x),("name",a),("over",b)]:List (Str×Value))):k_ K e ["self","name","over"] ["over"] gO Zi:=by
 refine⟨λs c d X f=>?_,λ{vs c i d}r g=>?_⟩
 ·match c,d,f with
  |[x,a],[b],_=>exact kp_binds X λS=>h S x a b
  |[],_,z=>simp[gO]at z
  |[_],_,z=>simp[gO]at z
  |[_,_],[],z=>simp[gO]at z
  |[_,_],_::_::_,z=>simp[gO]at z
  |_::_::_::_,_,z=>simp[gO]at z
 ·cases r with
  |nil=>exact .nil
  | cons r1 r=>
    cases r with
    |nil=>exact .nil
    | cons r2 r=>
      cases r with
      |cons r3 r=>exact .nil
      | nil=>
        cases g with
        |nil=>exact .nil
        | cons z1 z=>
          cases z with
          |cons z2 z=>exact .nil
          |nil=>exact .cons r1 (.cons r2 (.cons z1 .nil))
noncomputable def UL(a:Y1):List Str->Prop
 |[]=>True
 |x::l=>a x=none/\UL a l
noncomputable def Rc(K:Zs)(C:Zl):List Str->Prop
 |[]=>True
 |x::l=>findIn K (.ref C) x=some none/\Rc K C l
structure CI(K:Zs)(mg:Y1)(C:Zl)(n:Str)(l:Y2):Prop where
 a:mg n=some (.ref C)
 c:vh K C
 ma:makesIn K C=true
 kc:keepIn K (.ref C)=true
 n:Rc K C l
def ci(X:K.In h)(G:h.Ns mainGlobals j)(a:nsIn K mainGlobals n=some (some (.ref C)))(b:plainGet K C Str.empty=true)(c:hasDictIn K C=true)(d:plainOver K C=true)(e:findIn K (.ref C) "__setattr__"=some (some (.builtin "object.__setattr__")))(f:makesIn K C=true)(g:keepIn K (.ref C)=true)(i:Rc K C l):CI K j C n l:=⟨mg_of X G a,⟨b,c,d,e⟩,f,g,i⟩
def Zt(a:findIn K (.ref C) n=some (some (.ref f)))(i:isFn K (.ref f)=true)(l:K.lookup f=some ⟨oc,od,.func (fnOf n q (eG e) (d_ e) (b_ e) .none g h j an d m),s⟩)(c:codeIn K d q=true)(k:keepIn K (.ref f)=true)(b:∀(g h j:ZI)(an:YE)(d m o:ZI),bindArgs (fnOf n q (eG e) (d_ e) (b_ e) .none g h j an d m) ⟨[o],[]⟩=pure ([p].zip [o])):MD K C n q e [p] f (fnOf n q (eG e) (d_ e) (b_ e) .none g h j an d m):=
 ⟨⟨a,i,k⟩,j0 l c k,(j0 l c k).binds λ_ _ _ _ _ _ v r=>by obtain⟨_,rfl⟩:=PL r;exact b _ _ _ _ _ _ _⟩
def df1(X:K.In h)(G:h.Ns mainGlobals p)(a:nsIn K mainGlobals n=some (some (.ref f)))(l:K.lookup f=some ⟨oc,od,.func (fnOf n n (eG e) (d_ e) (b_ e) .none g i j an d m),s⟩)(c:codeIn K d n=true)(k:keepIn K (.ref f)=true)(b:∀(g i j:ZI)(an:YE)(d m o:ZI),bindArgs (fnOf n n (eG e) (d_ e) (b_ e) .none g i j an d m) ⟨[o],[]⟩=pure ([q].zip [o])):gq K p n e [q] f (fnOf n n (eG e) (d_ e) (b_ e) .none g i j an d m):=
 ⟨j0 l c k,mg_of X G a,(j0 l c k).binds λ_ _ _ _ _ _ v r=>by obtain⟨_,rfl⟩:=PL r;exact b _ _ _ _ _ _ _⟩
def ZJ(a:findIn K (.ref C) n=some (some (.ref f)))(i:isFn K (.ref f)=true)(l:K.lookup f=some ⟨oc,od,.func (fnOf n q (eG e) (d_ e) (b_ e) .none g h j an d m),w⟩)(c:codeIn K d q=true)(k:keepIn K (.ref f)=true)(b:∀(g h j:ZI)(an:YE)(d m o p:ZI),bindArgs (fnOf n q (eG e) (d_ e) (b_ e) .none g h j an d m) ⟨[o,p],[]⟩=pure ([r,s].zip [o,p])):MD K C n q e [r,s] f (fnOf n q (eG e) (d_ e) (b_ e) .none g h j an d m):=
 ⟨⟨a,i,k⟩,j0 l c k,(j0 l c k).binds λ_ _ _ _ _ _ x v=>by obtain⟨_,_,rfl⟩:=PP v;exact b _ _ _ _ _ _ _ _⟩
def Zo(X:K.In h)(G:h.Ns mainGlobals q)(a:nsIn K mainGlobals n=some (some (.ref f)))(l:K.lookup f=some ⟨oc,od,.func (fnOf n n (eG e) (d_ e) (b_ e) .none g i j an d m),w⟩)(c:codeIn K d n=true)(k:keepIn K (.ref f)=true)(b:∀(g i j:ZI)(an:YE)(d m o p:ZI),bindArgs (fnOf n n (eG e) (d_ e) (b_ e) .none g i j an d m) ⟨[o,p],[]⟩=pure ([r,s].zip [o,p])):gq K q n e [r,s] f (fnOf n n (eG e) (d_ e) (b_ e) .none g i j an d m):=
 ⟨j0 l c k,mg_of X G a,(j0 l c k).binds λ_ _ _ _ _ _ x v=>by obtain⟨_,_,rfl⟩:=PP v;exact b _ _ _ _ _ _ _ _⟩
def md3(a:findIn K (.ref C) n=some (some (.ref f)))(i:isFn K (.ref f)=true)(l:K.lookup f=some ⟨oc,od,.func (fnOf n q (eG e) (d_ e) (b_ e) .none g h j an d m),y⟩)(c:codeIn K d q=true)(k:keepIn K (.ref f)=true)(b:∀(g h j:ZI)(an:YE)(d m o p r:ZI),bindArgs (fnOf n q (eG e) (d_ e) (b_ e) .none g h j an d m) ⟨[o,p,r],[]⟩=pure ([s,v,w].zip [o,p,r])):MD K C n q e [s,v,w] f (fnOf n q (eG e) (d_ e) (b_ e) .none g h j an d m):=
 ⟨⟨a,i,k⟩,j0 l c k,(j0 l c k).binds λ_ _ _ _ _ _ z x=>by obtain⟨_,_,_,rfl⟩:=Ft x;exact b _ _ _ _ _ _ _ _ _⟩
def ZZ(X:K.In h)(G:h.Ns mainGlobals r)(a:nsIn K mainGlobals n=some (some (.ref f)))(l:K.lookup f=some ⟨oc,od,.func (fnOf n n (eG e) (d_ e) (b_ e) .none g i j an d m),y⟩)(c:codeIn K d n=true)(k:keepIn K (.ref f)=true)(b:∀(g i j:ZI)(an:YE)(d m o p q:ZI),bindArgs (fnOf n n (eG e) (d_ e) (b_ e) .none g i j an d m) ⟨[o,p,q],[]⟩=pure ([s,v,w].zip [o,p,q])):gq K r n e [s,v,w] f (fnOf n n (eG e) (d_ e) (b_ e) .none g i j an d m):=
 ⟨j0 l c k,mg_of X G a,(j0 l c k).binds λ_ _ _ _ _ _ z x=>by obtain⟨_,_,_,rfl⟩:=Ft x;exact b _ _ _ _ _ _ _ _ _⟩
def ZP(a:findIn K (.ref C) n=some (some (.ref f)))(i:isFn K (.ref f)=true)(l:K.lookup f=some ⟨oc,od,.func (fnOf n q (eG e) (d_ e) (b_ e) .none g h j an d m),A⟩)(c:codeIn K d q=true)(k:keepIn K (.ref f)=true)(b:∀(g h j:ZI)(an:YE)(d m o p r s:ZI),bindArgs (fnOf n q (eG e) (d_ e) (b_ e) .none g h j an d m) ⟨[o,p,r,s],[]⟩=pure ([v,w,x,y].zip [o,p,r,s])):MD K C n q e [v,w,x,y] f (fnOf n q (eG e) (d_ e) (b_ e) .none g h j an d m):=
 ⟨⟨a,i,k⟩,j0 l c k,(j0 l c k).binds λ_ _ _ _ _ _ B z=>by obtain⟨_,_,_,_,rfl⟩:=VR z;exact b _ _ _ _ _ _ _ _ _ _⟩
def Zq(X:K.In h)(G:h.Ns mainGlobals s)(a:nsIn K mainGlobals n=some (some (.ref f)))(l:K.lookup f=some ⟨oc,od,.func (fnOf n n (eG e) (d_ e) (b_ e) .none g i j an d m),A⟩)(c:codeIn K d n=true)(k:keepIn K (.ref f)=true)(b:∀(g i j:ZI)(an:YE)(d m o p q r:ZI),bindArgs (fnOf n n (eG e) (d_ e) (b_ e) .none g i j an d m) ⟨[o,p,q,r],[]⟩=pure ([v,w,x,y].zip [o,p,q,r])):gq K s n e [v,w,x,y] f (fnOf n n (eG e) (d_ e) (b_ e) .none g i j an d m):=
 ⟨j0 l c k,mg_of X G a,(j0 l c k).binds λ_ _ _ _ _ _ B z=>by obtain⟨_,_,_,_,rfl⟩:=VR z;exact b _ _ _ _ _ _ _ _ _ _⟩
def Qv{l:OpenLaw}{w:ZH}{K:Zs}{e:Y1}{fa du gE Tm di fB fP fO fS fW ho hp hq hr hs ht hu hv hw hx hy hz hA fI hB hC hD hE hF hG hH hI hJ hK hL hM hN hO hP dj dk dv dw dx dl dn dp hQ tW tS X ck dy hR hU hV dz hW qC gF hX hY qG gG hZ h0 h5 qL co h6 h7 h8 h9 ia ib ic ie ig ih ii ij ik il im io ip qY gH iq ir qX gI it iu iv iw Y cp ix iy iz iA dA iB iC iD dq cq ca cr cb tD h o g i q r C j:Zl}(iE:e "law"=some (.ref fa))
 {iF iG iH iI iJ dB dC dD dE dF dG dH dI dJ dK dL dM dN iK dO dP dQ dR dT dV dX dY dZ d0 d5 d6 d8 d9 ea eb ec ed ee ef eg eh ei ej ek el cs em en eo ep er es et eu ev ew ex ey ez eA eB eC eD eE eF eH eI eJ eK eL eM eN eO eP eQ eR eS eT eU eV eW eX eY cu eZ e0 e1:ZB}{e2 cv e3 e4 cw e5 e6 e7 e8 cx e9 cy fb cz fc fe cA ff fg cB:YE}{fh fi cD fk fl fm fn fo fp cE fq cF:YV}{G N b2 I ar aK bY ba O bk bZ iL fr fs:Nat}{ft cH cI cJ cc cN fu fv fw fx fy v0 v1 v2 v3 v4 v5 v6 v7 v8 v9 iM iN iO iP iQ iR iS iT fA fC fD fE fF cO fG fH fJ cP cQ cS cd cU fK cV cW cZ ce c0 fL c1 c2 c3 cf c4 fM fN fQ fR fT c5 fU c6 fV fX fY fZ f0 c7 f1 c8:ZI}
 (iU:e "law"=some (.ref du))
 (iV:K.lookup du=some ⟨ft,e2,.func (fnOf "law" "law" (eG (top 130)) (d_ (top 130)) (b_ (top 130)) .none cH cI cJ cv cc cN),fh⟩)
 (iW:codeIn K cc "law"=true)
 (iX:keepIn K (.ref du)=true)
 (jW:e "merged"=some (.ref gE))
 (jX:K.lookup gE=some ⟨fu,e3,.func (fnOf "merged" "merged" (eG (top 62)) (d_ (top 62)) (b_ (top 62)) .none fv fw fx e4 (.ref di) fy),fi⟩)
 (iY:K.lookup di=some ⟨fA,cw,.fields #[v0,v1,v2,v3,v4,v5,v6,v7,v8,v9,iM,.ref Tm,iN,iO,iP,iQ,iR,iS,iT],cD⟩)
 (iZ:K.lookup Tm=none)
 (i0:L2.tabIn K di=some Tm)
 (DB:gq K e "_law_begin" (top 112) ["_law_script"] fB iF)
 (DP:gq K e "_law_pick" (top 113) ["_law_d","_law_many"] fP iG)
 (DO:gq K e "_law_of" (top 114) ["_law_d","_law_things"] fO iH)
 (DS:gq K e "_law_same" (top 115) ["_law_found","_law_due"] fS iI)
 (DW:gq K e "_law_word" (top 116) ["_law_d"] fW iJ)
 (i1:gq K e "_law_words" (top 117) ["_law_d","_law_many"] ho dB)
 (i2:gq K e "_law_small_fields" (top 127) ["_law_d"] hp dC)
 (gJ:gq K e "_law_cast" (top 128) ["_law_d"] hq dD)
 (gK:gq K e "_law_cast_test" (top 129) ["_law_d","_law_c"] hr dE)
 (gL:gq K e "_law_near_values" (top 125) ["_law_d","_law_test_here","_law_fields"] hs dF)
 (i3:gq K e "_law_passes" (top 124) ["_law_test_here","_law_title","_law_fields","_law_values"] ht dG)
 (gN:gq K e "_law_value" (top 118) ["_law_d","_law_field"] hu dH)
 (i4:gq K e "_law_leaves_any" (top 126) ["_law_test_here"] hv dI)
 (i5:gq K e "_law_number" (top 119) ["_law_d"] hw dJ)
 (i6:gq K e "_law_leaf" (top 120) ["_law_d","_law_names","_law_kinds"] hx dK)
 (i7:gq K e "_law_tree" (top 121) ["_law_d","_law_deep","_law_names","_law_kinds"] hy dL)
 (i8:gq K e "_law_parts" (top 122) ["_law_test_here"] hz dM)
 (gO:gq K e "_law_test" (top 123) ["_law_d","_law_names","_law_kinds"] hA dN)
 (DI:gq K e "is_name" (top 26) ["text"] fI iK)
 (gP:gq K e "need_name" (top 27) ["text"] hB dO)
 (i9:gq K e "need_fields" (top 28) ["fields"] hC dP)
 (gQ:gq K e "need_pages" (top 52) ["pages"] hD dQ)
 (gR:gq K e "need_room" (top 53) ["room"] hE dR)
 (f2:gq K e "need_new" (top 87) ["name","borne"] hF dT)
 (gS:gq K e "need_fewer" (top 88) ["things","most"] hG dV)
 (ja:gq K e "told_from" (top 54) ["events","place"] hH dX)
 (jb:gq K e "is_word" (top 69) ["thing"] hI dY)
 (jc:gq K e "is_number" (top 70) ["thing"] hJ dZ)
 (jd:gq K e "is_leaf" (top 71) ["test"] hK d0)
 (gT:gq K e "count_parts" (top 72) ["thing","deep"] hL d5)
 (gU:gq K e "is_test" (top 73) ["test"] hM d6)
 (gV:gq K e "need_test" (top 74) ["test"] hN d8)
 (je:gq K e "passes" (top 75) ["test","kind","values"] hO d9)
 (gW:gq K e "passes_leaf" (top 76) ["leaf","kind","values"] hP ea)
 (f3:gq K e "do_kind" (top 91) ["stand","handed"] dj eb)
 (f4:gq K e "do_lane" (top 92) ["stand","handed"] dk ec)
 (gX:gq K e "do_claim" (top 94) ["stand","handed"] dv ed)
 (gY:gq K e "do_fill" (top 95) ["stand","handed"] dw ee)
 (gZ:gq K e "do_give" (top 96) ["stand","handed"] dx ef)
 (f5:gq K e "do_write" (top 98) ["stand","handed"] dl eg)
 (f6:gq K e "do_tick" (top 93) ["stand","handed"] dn eh)
 (f7:gq K e "do_sieve" (top 101) ["stand","handed"] dp ei)
 (jf:gq K e "perform" (top 108) ["stand","deed"] hQ ej)
 (zz:UL e ["len","range","list","tuple","str","bool","int","min","repr","all","any","isinstance","dict","enumerate","zip","sum","max"])
 (J:e "MOST_LETTERS"=some (.int 8 G))
 (U:e "MOST_FIELDS"=some (.int 4 N))
 (b3:e "LIMIT"=some (.int 999999 b2))
 (M:e "FEWEST_PAGES"=some (.int 2 I))
 (bs:e "MOST_PAGES"=some (.int 16 ar))
 (bt:e "LEAST_ROOM"=some (.int 5 aK))
 (b0:e "MOST_ROOM"=some (.int 12 bY))
 (bK:e "MOST_KINDS"=some (.int 8 ba))
 (W:e "MOST_TRACKS"=some (.int 6 O))
 (bX:e "MOST_PARTS"=some (.int 15 bk))
 (b1:e "MOST_DEEP"=some (.int 5 bZ))
 (f8:e "WITHIN"=some (.ref tW))
 (jg:PyProof.Rows.KTD.tabLook PyProof.Rows.KTD.flatLooks (λb=>K.lookup b) tW dW=true)
 (f9:e "SIGN_OF"=some (.ref tS))
 (jh:PyProof.Rows.KTD.tabLook PyProof.Rows.KTD.flatLooks (λb=>K.lookup b) tS dS=true)
 (cK:CI K e X "Kind" ["name","fields"])
 (ji:findIn K (.ref X) "__init__"=some (some (.ref ck)))
 (jj:K.lookup ck=some ⟨fC,e5,.func (fnOf "__init__" "Kind.__init__" (eG (kM 0)) (d_ (kM 0)) (b_ (kM 0)) (.ref dy) fD fE fF e6 cO fG),fk⟩)
 (jk:codeIn K cO "Kind.__init__"=true)
 (jl:keepIn K (.ref ck)=true)
 (jm:isFn K (.ref ck)=true)
 (jn:K.lookup dy=some ⟨fH,e7,.seq #[.ref hR] iL,fl⟩)
 (g0:MD K X "cells" "Kind.cells" (kM 2) ["self"] hU ek)
 (jo:MD K X "need" "Kind.need" (kM 4) ["self","values"] hV el)
 (c9:MD K X "lowest" "Kind.lowest" (kM 1) ["self"] dz cs)
 (g1:MD K X "place_of" "Kind.place_of" (kM 3) ["self","field"] hW em)
 (cC:CI K e qC "Claim" ["ticket","time","form","filled","given"])
 (da:MD K qC "__init__" "Claim.__init__" (cM 0) ["self","ticket","time","kind"] gF en)
 (jp:MD K qC "told_at" "Claim.told_at" (cM 1) ["self","place"] hX eo)
 (g2:MD K qC "twin" "Claim.twin" (cM 2) ["self"] hY ep)
 (cG:CI K e qG "Page" ["claims","used","gone"])
 (b6:MD K qG "__init__" "Page.__init__" (gM 0) ["self"] gG er)
 (g3:MD K qG "unclosed" "Page.unclosed" (gM 1) ["self"] hZ es)
 (jq:MD K qG "without" "Page.without" (gM 2) ["self","ticket"] h0 et)
 (g4:MD K qG "twin" "Page.twin" (gM 3) ["self"] h5 eu)
 (cL:CI K e qL "Lane" ["most","room","over","pages","held","told","last_time","tickets","given_in","thrown_back","lost","missed"])
 (jr:findIn K (.ref qL) "__init__"=some (some (.ref co)))
 (js:K.lookup co=some ⟨fJ,e8,.func (fnOf "__init__" "Lane.__init__" (eG (lM 0)) (d_ (lM 0)) (b_ (lM 0)) .none cP cQ cS cx cd cU),fm⟩)
 (jt:codeIn K cd "Lane.__init__"=true)
 (ju:keepIn K (.ref co)=true)
 (jv:isFn K (.ref co)=true)
 (jw:∀(S:Setting)(x a b c:ZI),peek K S (bindArgs (fnOf "__init__" "Lane.__init__" (eG (lM 0)) (d_ (lM 0)) (b_ (lM 0)) .none cP cQ cS cx cd cU) ⟨[x],[("pages",a),("room",b),("over",c)]⟩)=some ([("self",x),("pages",a),("room",b),("over",c)]:List (Str×Value)))
 (g5:MD K qL "claim" "Lane.claim" (lM 1) ["self","kind","time"] h6 ev)
 (g6:MD K qL "make_room" "Lane.make_room" (lM 2) ["self","cells"] h7 ew)
 (g7:MD K qL "eldest" "Lane.eldest" (lM 3) ["self"] h8 ex)
 (g8:MD K qL "lose_eldest" "Lane.lose_eldest" (lM 4) ["self"] h9 ey)
 (jx:MD K qL "leave" "Lane.leave" (lM 5) ["self","number"] ia ez)
 (dr:MD K qL "waiting" "Lane.waiting" (lM 6) ["self"] ib eA)
 (dt:MD K qL "waiting_with" "Lane.waiting_with" (lM 7) ["self","ticket"] ic eB)
 (ga:MD K qL "last_waiting" "Lane.last_waiting" (lM 8) ["self","ticket"] ie eC)
 (g9:MD K qL "fill" "Lane.fill" (lM 9) ["self","ticket","values"] ig eD)
 (ha:MD K qL "give" "Lane.give" (lM 10) ["self","ticket"] ih eE)
 (hb:MD K qL "throw" "Lane.throw" (lM 11) ["self","ticket"] ii eF)
 (hc:MD K qL "standing" "Lane.standing" (lM 12) ["self"] ij eH)
 (gb:MD K qL "look" "Lane.look" (lM 13) ["self"] ik eI)
 (hd:MD K qL "pending" "Lane.pending" (lM 16) ["self"] il eJ)
 (he:MD K qL "event" "Lane.event" (lM 17) ["self","ticket"] im eK)
 (jy:MD K qL "counts" "Lane.counts" (lM 19) ["self"] io eL)
 (hf:MD K qL "twin" "Lane.twin" (lM 21) ["self"] ip eM)
 (cY:CI K e qY "Track" ["written","clock","test"])
 (cl:MD K qY "__init__" "Track.__init__" (tM 0) ["self","written"] gH eN)
 (gc:MD K qY "top" "Track.top" (tM 1) ["self"] iq eO)
 (hg:MD K qY "twin" "Track.twin" (tM 2) ["self"] ir eP)
 (cX:CI K e qX "Stand" ["pages","room","known","tracks","counters","still","halting"])
 (db:MD K qX "__init__" "Stand.__init__" (sM 0) ["self","pages","room"] gI eQ)
 (b4:MD K qX "track_of" "Stand.track_of" (sM 1) ["self","name"] it eR)
 (hh:MD K qX "kind_of" "Stand.kind_of" (sM 2) ["self","name"] iu eS)
 (hi:MD K qX "looks" "Stand.looks" (sM 4) ["self"] iv eT)
 (hj:MD K qX "twin" "Stand.twin" (sM 5) ["self"] iw eU)
 (cR:CI K e Y "Recorder" ["stand","past","undone"])
 (jz:findIn K (.ref Y) "__init__"=some (some (.ref cp)))
 (jA:K.lookup cp=some ⟨fK,e9,.func (fnOf "__init__" "Recorder.__init__" (eG (rM 0)) (d_ (rM 0)) (b_ (rM 0)) .none cV cW cZ cy ce c0),fn⟩)
 (jB:codeIn K ce "Recorder.__init__"=true)
 (jC:keepIn K (.ref cp)=true)
 (jD:isFn K (.ref cp)=true)
 (jE:∀(S:Setting)(x a b:ZI),peek K S (bindArgs (fnOf "__init__" "Recorder.__init__" (eG (rM 0)) (d_ (rM 0)) (b_ (rM 0)) .none cV cW cZ cy ce c0) ⟨[x],[("pages",a),("room",b)]⟩)=some ([("self",x),("pages",a),("room",b)]:List (Str×Value)))
 (gd:MD K Y "write" "Recorder.write" (rM 8) ["self","lane","kind","values"] ix eV)
 (gf:MD K Y "sieve" "Recorder.sieve" (rM 11) ["self","lane","test"] iy eW)
 (gg:MD K Y "now" "Recorder.now" (rM 25) ["self","lane"] iz eX)
 (gh:MD K Y "test_of" "Recorder.test_of" (rM 26) ["self","lane"] iA eY)
 (cg:MD K Y "look" "Recorder.look" (rM 27) ["self","lane"] dA cu)
 (cm:MD K Y "do" "Recorder.do" (rM 17) ["self","deed"] iB eZ)
 (gi:MD K Y "counts" "Recorder.counts" (rM 29) ["self","lane"] iC e0)
 (gj:MD K Y "__len__" "Recorder.__len__" (rM 37) ["self"] iD e1)
 (jF:findIn K (.ref Y) "lane"=some (some (.ref dq)))
 (jG:isFn K (.ref dq)=true)
 (jH:K.lookup dq=some ⟨fL,fb,.func (fnOf "lane" "Recorder.lane" (eG (rM 2)) (d_ (rM 2)) (b_ (rM 2)) .none c1 c2 c3 cz cf c4),fo⟩)
 (jI:codeIn K cf "Recorder.lane"=true)
 (hk:keepIn K (.ref dq)=true)
 (gk:∀(S:Setting)(x a b:ZI),peek K S (bindArgs (fnOf "lane" "Recorder.lane" (eG (rM 2)) (d_ (rM 2)) (b_ (rM 2)) .none c1 c2 c3 cz cf c4) ⟨[x,a],[("over",b)]⟩)=some ([("self",x),("name",a),("over",b)]:List (Str×Value)))
 (jJ:findIn K (.ref Y) "kind"=some (some (.ref cq)))
 (jK:isFn K (.ref cq)=true)
 (jL:K.lookup cq=some ⟨fN,fc,.func (fnOf "kind" "Recorder.kind" (eG (rM 1)) (d_ (rM 1)) (b_ (rM 1)) (.ref ca) fQ fR fT fe c5 fU),fp⟩)
 (jM:codeIn K c5 "Recorder.kind"=true)
 (hm:keepIn K (.ref cq)=true)
 (gl:K.lookup ca=some ⟨c6,cA,.seq #[fM] fr,cE⟩)
 (jN:findIn K (.ref Y) "tick"=some (some (.ref cr)))
 (jO:isFn K (.ref cr)=true)
 (jP:K.lookup cr=some ⟨fX,ff,.func (fnOf "tick" "Recorder.tick" (eG (rM 3)) (d_ (rM 3)) (b_ (rM 3)) (.ref cb) fY fZ f0 fg c7 f1),fq⟩)
 (jQ:codeIn K c7 "Recorder.tick"=true)
 (hn:keepIn K (.ref cr)=true)
 (gm:K.lookup cb=some ⟨c8,cB,.seq #[fV] fs,cF⟩)
 (gn:X≠qC)
 (gp:X≠qG)
 (gr:X≠qL)
 (dd:X≠qY)
 (gs:X≠qX)
 (gu:X≠Y)
 (gv:qC≠qG)
 (gw:qC≠qL)
 (de:qC≠qY)
 (gx:qC≠qX)
 (jR:qC≠Y)
 (gy:qG≠qL)
 (df:qG≠qY)
 (gz:qG≠qX)
 (jS:qG≠Y)
 (dg:qL≠qY)
 (gA:qL≠qX)
 (jT:qL≠Y)
 (gB:qY≠qX)
 (jU:qY≠Y)
 (gC:qX≠Y)
 (gD:e "DEEDS"=some (.ref tD))
 (b7:e "do_throw"=some (.ref h))
 (ch:e "do_take"=some (.ref o))
 (b5:e "do_resize"=some (.ref g))
 (b8:e "do_tally"=some (.ref i))
 (ci:e "do_halt"=some (.ref q))
 (cj:e "do_stop"=some (.ref r))
 (dh:e "do_go"=some (.ref C))
 (b9:e "do_whole"=some (.ref j))
 (jV:PyProof.Rows.KTD.tabLook oZ (λb=>K.lookup b) tD [("kind",dj),("lane",dk),("tick",dn),("claim",dv),("fill",dw),("give",dx),("throw",h),("write",dl),("take",o),("resize",g),("sieve",dp),("tally",i),("halt",q),("stop",r),("go",C),("whole",j)]=true):
 ∃(fd:ZB)(sp:Sp),(∀(s:Zp)(u:ZI),BindsTo s fd ⟨[u],[]⟩ [("_law_script",u)])/\(∀T∈[Tm],K.lookup T=none/\∃c,L2.tabIn K c=some T)/\
  (∀(H:Hp)(a:Zl)(ns:List Int),ns.length<=63->(∀T∈[Tm],H T=some (.tbl #[]))->fj K H a (ns.map V.int)->sp [.ref a] H (λv _=>v=.bl true) λ_ _ _=>False)/\
  ∀d:Heap,K.In d->d.Ns mainGlobals e->(∀T∈[Tm],d.BuiltinsAt e T/\mainGlobals≠T)->dm l.prog w K e d dU 17 fa fd ["_law_script"] sp:=by
 cases iE.symm.trans iU;obtain⟨a1,aA,aS,aB,a2,aT,a3,a4,aU,a5,a6,Z,aV,A,a7,ag,a8,_⟩:=zz;have T:Txt K e:=⟨a1,aA,aS,aB,a2,aT,a3,a4,aU,a5,a6,Z⟩;have bw:=j0 (st:=top 130) iV iW iX;have a9:uq K "__init__" "Kind.__init__" (kM 0) (.ref dy) ck _:=⟨⟨_,_,_,_,_,_,_,_,_,rfl,jj,jk⟩,jl⟩;have bb:=a9.binds (ps:=["self","name","fields"]) (ds:=[]) jn rfl λkV aW pm an aX ct s us hT hl=>G9 rfl kV aW pm an aX ct s us hT hl;have bc:Mk K X ck:=⟨cK.ma,ji,jm,cK.kc⟩;obtain⟨aC,ah,_⟩:=cK.n;have bd:Mk K qC gF:=⟨cC.ma,da.M.1,da.M.2,cC.kc⟩;obtain⟨ai,aD,aE,aj,ap,_⟩:=cC.n;have aY:Mk K qG gG:=⟨cG.ma,b6.M.1,b6.M.2,cG.kc⟩;obtain⟨ak,aF,aG,_⟩:=cG.n;have bx:=j0 (st:=lM 0) js jt ju;have be:Mk K qL co:=⟨cL.ma,jr,jv,cL.kc⟩;obtain⟨aH,aI,aJ,aq,aL,aM,aa,ad,ab,F,aN,al,_⟩:=cL.n;have bf:Mk K qY gH:=⟨cY.ma,cl.M.1,cl.M.2,cY.kc⟩;obtain⟨ae,au,aO,_⟩:=cY.n;have bg:Mk K qX gI:=⟨cX.ma,db.M.1,db.M.2,cX.kc⟩;obtain⟨av,aP,aw,am,ac,ax,af,_⟩:=cX.n;have bz:=j0 (st:=rM 0) jA jB jC;have bA:Mk K Y cp:=⟨cR.ma,jz,jD,cR.kc⟩;obtain⟨ay,aQ,ao,_⟩:=cR.n;have bB:=j0 (st:=rM 2) jH jI hk;have bh:uq K "kind" "Recorder.kind" (rM 1) (.ref ca) cq _:=⟨⟨_,_,_,_,_,_,_,_,_,rfl,jL,jM⟩,hm⟩;have bC:=bh.binds (ps:=["self","name","fields"]) (ds:=[]) gl rfl λkV aW pm an aX ct s us hT hl=>(by rw[aaQ]at hl|-;obtain⟨_,_,_,rfl⟩:=Ft hl;exact acT rfl hT rfl rfl rfl);have bi:uq K "tick" "Recorder.tick" (rM 3) (.ref cb) cr _:=⟨⟨_,_,_,_,_,_,_,_,_,rfl,jP,jQ⟩,hn⟩;have bD:=bi.binds (ps:=["self","lane","steps"]) (ds:=[]) gm rfl λkV aW pm an aX ct s us hT hl=>(by rw[aaQ]at hl|-;obtain⟨_,_,_,rfl⟩:=Ft hl;exact acT rfl hT rfl rfl rfl);refine⟨fnOf "law" "law" (eG (top 130)) (d_ (top 130)) (b_ (top 130)) .none cH cI cJ cv cc cN,Iu K,λs v=>.of_eq rfl,λT m=>by cases aam.mp m;exact⟨iZ,di,i0⟩,λH a ns hl _ hS=>⟨a,ns,rfl,hS,hl,λ_=>rfl⟩,λd _ _ _=>?_⟩;have aR:sJ e:=⟨⟨_,J⟩,⟨_,U⟩,⟨_,b3⟩⟩;have TL:Gx e:=⟨⟨_,M⟩,⟨_,bs⟩,⟨_,bt⟩,⟨_,b0⟩⟩;have bj:Qa e:=⟨⟨_,bK⟩,⟨_,W⟩⟩;have TT:U8 e:=⟨⟨_,bX⟩,⟨_,b1⟩⟩;have TB:Rn K e tW tS:=⟨f8,f9,jg,jh⟩;have KC:KCls K e X:=⟨cK.c,aC,ah,cK.a⟩;have L:LZ K e ⟨X,qC,qG,qL⟩:=⟨⟨gn,gp,gr,gv,gw,gy⟩,KC,cC.c,cC.a,ai,aD,aE,aj,ap,cG.c,cG.a,ak,aF,aG,cL.c,cL.a,aH,aI,aJ,aq,aL,aM,aa,ad,ab,F,aN,al⟩;have y:TZ K e qY:=⟨cY.c,cY.a,ae,au,aO⟩;have n:SZ K e qX:=⟨cX.c,aV,cX.a,av,aP,aw,am,ac,ax,af⟩;have B:RZ K e Y:=⟨cR.c,cR.a,ay,aQ,ao⟩;have ne:xu ⟨X,qC,qG,qL⟩ qY qX:=⟨gs,gx,gz,gA,gB⟩;have cn:Nq ⟨X,qC,qG,qL⟩ qY:=⟨dd.symm,de.symm,df.symm,dg.symm⟩;have bl:=Ka jw;have bm:=JQ (P:=l.prog) (w:=w) (base:=d) a9 T aR KC DI gP i9;have bn:=Uu (P:=l.prog) (w:=w) (base:=d) da.F L bc bm bb c9 (CV c9.F T KC);have bo:=TY (P:=l.prog) (w:=w) (base:=d) bx L TL gQ gR aY b6.F b6.b;have bE:=Sw (P:=l.prog) (w:=w) (base:=d) g6.F T L g7 g3 g8 (Vj g8.F T L g7 jx) aY b6.F b6.b;have bF:=Ux (P:=l.prog) (w:=w) (base:=d) g5.F T L g6 bE g0 bd bn da.b;have aZ:=VL (P:=l.prog) (w:=w) (base:=d) dr.F L g3;have a0:=Um (P:=l.prog) (w:=w) (base:=d) dt.F L dr aZ;have bp:=Sv (P:=l.prog) (w:=w) (base:=d) ga.F L dr aZ dt a0;have bq:=VP (P:=l.prog) (w:=w) (base:=d) gb.F L hc (V9 hc.F L jp) ja;have bG:=VD (P:=l.prog) (w:=w) (base:=d) ha.F L ga bp;have bH:=Vl (P:=l.prog) (w:=w) (base:=d) hb.F T L ga bp g0 jq;have bI:=V1 (P:=l.prog) (w:=w) (base:=d) g9.F T A a7 L dt a0 jo;have bJ:=Ur (P:=l.prog) (w:=w) (base:=d) hf.F L be bo bl g4 (RQ g4.F L aY b6.F b6.b g2 (Ui g2.F L bd bn da.b));have bL:=Vh (P:=l.prog) (w:=w) (base:=d) hg.F L y ⟨dg,df,de,dd⟩ bf cl.F cl.b hf bJ;have br:=Ut (P:=l.prog) (w:=w) (base:=d) db.F n TL gQ gR;have bM:=Vo (P:=l.prog) (w:=w) (base:=d) hj.F n y ne bg db.b br hg bL;have bu:=OJ (P:=l.prog) (w:=w) (base:=d) gc.F T L y hd (T7 hd.F L dr aZ);have bN:=Sq (P:=l.prog) (w:=w) (base:=d) gW.F KC g1 (HJ g1.F T A KC);have bO:=Uz (P:=l.prog) (w:=w) (base:=d) gX.F L y n ne cn b4 hh g5 bF;have bP:=U5 (P:=l.prog) (w:=w) (base:=d) gY.F T L y n ne cn b4 gc bu g9 bI;have bQ:=T6 (P:=l.prog) (w:=w) (base:=d) gZ.F L y n ne cn b4 hh gc bu he (Uo he.F L dt a0) ha bG hb bH je gW bN;have bv:=QX (P:=l.prog) (w:=w) (base:=d) f2.F T aR DI gP;have bR:WF K e tD [("kind",dj),("lane",dk),("tick",dn),("claim",dv),("fill",dw),("give",dx),("throw",h),("write",dl),("take",o),("resize",g),("sieve",dp),("tally",i),("halt",q),("stop",r),("go",C),("whole",j)]:=⟨gD,jV⟩;have az:=SM (P:=l.prog) (w:=w) (base:=d) (R:=Y) cm.F B n gu hj bM jf bR;have bS:=Vz (P:=l.prog) (w:=w) (base:=d) gT T ag aR TB DI jb jc jd 5 (by decide);have bT:=RK (P:=l.prog) (w:=w) (base:=d) (cT:=0) gV.F gU (S7 gU.F TT gT bS);have d1:qH l.prog w K e d dk (Mw ⟨X,qC,qG,qL⟩ qY qX K):=⟨⟨_,5,f4.b,by decide,V3 f4.F T bj L y n ne f2 bv gS be bo bl bf cl.F cl.b⟩,f4.F.kp⟩;have d2:qH l.prog w K e d dj (Jv ⟨X,qC,qG,qL⟩ qY qX K):=⟨⟨_,6,f3.b,by decide,Td f3.F T bj L n ne f2 bv gS bc bm bb⟩,f3.F.kp⟩;have d3:qH l.prog w K e d dn (BW ⟨X,qC,qG,qL⟩ qY qX K):=⟨⟨_,2,f6.b,by decide,T8 f6.F aR y n ne cn b4⟩,f6.F.kp⟩;have d4:qH l.prog w K e d dp (LK ⟨X,qC,qG,qL⟩ qY qX K):=⟨⟨_,12,f7.b,by decide,Vw f7.F y n ne cn b4 gV bT⟩,f7.F.kp⟩;have d7:qH l.prog w K e d dl (J_ ⟨X,qC,qG,qL⟩ qY qX K):=⟨⟨_,10,f5.b,by decide,V5 f5.F gX bO gY bP gZ bQ⟩,f5.F.kp⟩;have bU:=Pr (P:=l.prog) (w:=w) (base:=d) gN.F T DP DO;have bV:=Om (P:=l.prog) (w:=w) (base:=d) gL.F T a8 DP gN (bU.imp λvs H Q E⟨p,dc,x,f,h1,h2,h3,h4,k⟩=>⟨p,dc,x,f,h1,h2,h3,h4,λz H' fz D b=>k z H' fz.1 fz.2 D b⟩) i4;have bW:=VB (P:=l.prog) (w:=w) (base:=d) gO.F T ag DP DO i5 i6 i7 i8;exact Rg bw T ag B DB DP DO DS gJ (KJ gJ.F T DP DO DW i1 i2) gK (Ol gK.F gO bW) gL bV i3 bA (T3 bz B n gC bg db.b br) (Qn jE) ⟨jF,jG,hk⟩ (Gy bB B cm az (by kernel_rfl) d1) (Mq gk) ⟨⟨jJ,jK,hm⟩,bC⟩ (Hk bh B cm az (by kernel_rfl) d2) ⟨⟨jN,jO,hn⟩,bD⟩ (Gg bi B cm az (by kernel_rfl) d3) ⟨gf.M,gf.b⟩ (DX gf.F B cm az (by kernel_rfl) d4) ⟨gd.M,gd.b⟩ (Ej gd.F B cm az (by kernel_rfl) d7) ⟨gg.M,gg.b⟩ (Lj gg.F B n y b4) ⟨gh.M,gh.b⟩ (zV gh.F B n y b4) ⟨cg.M,cg.b⟩ (J6 cg.F B n y b4 L gb bq) ⟨gi.M,gi.b⟩ (V0 gi.F L B n y b4 jy) ⟨gj.M,gj.b⟩ (TJ gj.F T B n hi (Qq hi.F L n y ne gb bq))
end Cm
open PySem PySem.W PyProof.Rows
set_option maxRecDepth 100000 in
set_option maxHeartbeats 0 in
theorem PySem.Challenge.cw_lanescribe_k42_whole_tests_let_events_by_holds : PySem.Challenge.rw_lanescribe_k42_whole_tests_let_events_by.Holds := by
 w_on
 refine Kd.head ?hw (by rfl) (by rfl) (by rfl) ?hc
 (case hw=>w_witness2)
 k_fill
 refine L2.Hm (l:=PySem.Challenge.rw_lanescribe_k42_whole_tests_let_events_by) (n:=63) (k:=17) (x:="_law_script") (CX:=λ_=>L2.dU) rfl (by decide) rfl ⟨rfl,by decide,by decide,rfl⟩ (λw h Y=>km_in_of Y) (λw h Y=>km_tabs_of Y) ?F (λ_ _ _ _ _ z=>z)
 case F=>
  intro w c d h a G b;apply Cm.Qv b
  any_goals first|k_is|((with_reducible refine mg_of a G ?_);k_is)|((with_reducible show Cm.MD _ _ _ _ _ [_] _ _);exact Cm.Zt (by k_is) (by k_is) (by k_is) (by k_is) (by k_is) λ_ _ _ _ _ _ _=>rfl)|((with_reducible show Cm.MD _ _ _ _ _ [_,_] _ _);exact Cm.ZJ (by k_is) (by k_is) (by k_is) (by k_is) (by k_is) λ_ _ _ _ _ _ _ _=>rfl)|((with_reducible show Cm.MD _ _ _ _ _ [_,_,_] _ _);exact Cm.md3 (by k_is) (by k_is) (by k_is) (by k_is) (by k_is) λ_ _ _ _ _ _ _ _ _=>rfl)|((with_reducible show Cm.MD _ _ _ _ _ [_,_,_,_] _ _);exact Cm.ZP (by k_is) (by k_is) (by k_is) (by k_is) (by k_is) λ_ _ _ _ _ _ _ _ _ _=>rfl)|((with_reducible show L2.gq _ _ _ _ [_] _ _);exact Cm.df1 a G (by k_is) (by k_is) (by k_is) (by k_is) λ_ _ _ _ _ _ _=>rfl)|((with_reducible show L2.gq _ _ _ _ [_,_] _ _);exact Cm.Zo a G (by k_is) (by k_is) (by k_is) (by k_is) λ_ _ _ _ _ _ _ _=>rfl)|((with_reducible show L2.gq _ _ _ _ [_,_,_] _ _);exact Cm.ZZ a G (by k_is) (by k_is) (by k_is) (by k_is) λ_ _ _ _ _ _ _ _ _=>rfl)|((with_reducible show L2.gq _ _ _ _ [_,_,_,_] _ _);exact Cm.Zq a G (by k_is) (by k_is) (by k_is) (by k_is) λ_ _ _ _ _ _ _ _ _ _=>rfl)|((with_reducible show Cm.CI _ _ _ _ _);exact Cm.ci a G (by k_is) (by k_is) (by k_is) (by k_is) (by k_is) (by k_is) (by k_is) (by repeat first|exact trivial|refine⟨by k_is,?_⟩))|(repeat first|exact trivial|refine⟨mg_none_of a G (by k_is),?_⟩)|skip
  any_goals first|kernel_rfl|decide|(intros;kernel_rfl)|skip
